/- Texts in one: LpX, LpW. -/
import Derived.Test.YtbnekkcjkdghcaaXqPutV
import Derived.Test.YtbnekkcjkdghcaaXqPopV
import Derived.Test.YtbnekkcjkdghcaaGC
/- The document's queue as one more object; it and the program's side by side. -/
namespace Go.Proofs.Ytbnekkcjkdghcaa
open Go.RowKit Go.Maps Go.Shelf
open Go.Sort (grow grow_empty grow_grow alloc_eq_grow heap_grow_old)

/-- The document's queue: its pairs, their counts, what it knows, what it has counted. -/
structure Xm where
  P : List (Int × Int)
  C : List Int
  M : Cn
  pu : Int
  po : Int
  pk : Int
  re : Int
def newX : Xm := ⟨[], [], [], 0, 0, 0, 0⟩
def putM (x : Xm) (p : Int × Int) (n : Int) : Xm :=
  if n < 1 then { x with M := delC x.M p }
  else bif manyQ (x.P.length + 1) (insC p n x.M).length then ⟨keysC (insC p n x.M), valsC (insC p n x.M), insC p n x.M, x.pu + 1, x.po, max x.pk ((x.P.length + 1 : Nat) : Int), x.re + 1⟩
  else ⟨x.P ++ [p], x.C ++ [n], insC p n x.M, x.pu + 1, x.po, max x.pk ((x.P.length + 1 : Nat) : Int), x.re⟩
/-- Both queues hold the same. -/
structure TwinQ (q : Qm) (x : Xm) : Prop where
  perm : q.ents.Perm (zipQ x.P x.C)
  len : x.C.length = x.P.length
  known : q.known = x.M
  pu : q.pu = x.pu
  po : q.po = x.po
  pk : q.pk = x.pk
  re : q.re = x.re
set_option maxRecDepth 100000 in
theorem twin_new : TwinQ newQ newX := ⟨List.Perm.refl _, rfl, rfl, rfl, rfl, rfl, rfl⟩
set_option maxRecDepth 100000 in
theorem TwinQ.ents {q : Qm} {x : Xm} (h : TwinQ q x) : q.ents.length = x.P.length := by rw [h.perm.length_eq, zipQ_len h.len]
set_option maxRecDepth 100000 in
theorem zip_known : ∀ M : Cn, zipQ (keysC M) (valsC M) = itemsOf M
  | [] => rfl
  | z :: r => by
    have ih := zip_known r
    unfold zipQ keysC valsC itemsOf at *
    simp only [List.map_cons, List.zipWith_cons_cons, ih]
    rfl
set_option maxRecDepth 100000 in
theorem TwinQ.put {q : Qm} {x : Xm} (h : TwinQ q x) (p : Int × Int) (n : Int) : TwinQ (putQ q p n) (putM x p n) := by
  unfold putQ putM
  rw [h.known, h.ents, h.pu, h.po, h.pk, h.re]
  by_cases hn : n < 1
  · rw [if_pos hn, if_pos hn]
    exact ⟨h.perm, h.len, rfl, rfl, rfl, rfl, rfl⟩
  · rw [if_neg hn, if_neg hn]
    cases manyQ (x.P.length + 1) (insC p n x.M).length with
    | true => exact ⟨by rw [cond_true, cond_true, zip_known], by rw [cond_true]; simp [keysC_len, valsC_len], rfl, rfl, rfl, rfl, rfl⟩
    | false =>
      rw [cond_false, cond_false]
      refine ⟨?_, by simp [h.len], rfl, rfl, rfl, rfl, rfl⟩
      show (q.ents ++ [(p.1, p.2, n)]).Perm (zipQ (x.P ++ [p]) (x.C ++ [n]))
      rw [zipQ_append h.len]
      exact h.perm.append_right _
set_option maxRecDepth 100000 in
/-- Both tell the same, and are the same behind it. -/
theorem TwinQ.pop {q : Qm} {x : Xm} {f : Int × Int → Int} {o o2 : Option Item} {l : List Item} {n n2 : Nat} {P' : List (Int × Int)} {C' : List Int} (h : TwinQ q x) (hs : SaneQ [] q) (hp : Pops [] f q.ents o l n) (hd : Pops [] f (zipQ x.P x.C) o2 (zipQ P' C') n2) (hl : C'.length = P'.length) :
    o = o2 ∧ TwinQ (popQ q o l n) ⟨P', C', dropM x.M o2, x.pu, x.po + (n2 : Int), x.pk, x.re⟩ := by
  obtain ⟨rfl, rfl, k⟩ := hp.one good_nil hd h.perm hs.ents
  refine ⟨rfl, ⟨k, hl, ?_, h.pu, ?_, h.pk, h.re⟩⟩
  · cases o with
    | none => exact h.known
    | some y => show delC q.known (pairI y) = delC x.M (pairI y); rw [h.known]
  · show q.po + (n : Int) = x.po + (n : Int); rw [h.po]
/-- The document's queue in block X, its table in T. -/
def XqO (X T : Nat) (x : Xm) : Ob where
  P := fun w S => ∃ tv tp pv nv kv ku, XqIn w X T tv tp pv nv kv ku [] x.P x.C x.M x.pu x.po x.pk x.re ∧ (∀ k, mineX X pv nv kv ku k ∨ mineR T tv tp k → S k) ∧ ∀ k, S k → k < w.heap.size
  lt := fun w S h k hk => by obtain ⟨_, _, _, _, _, _, _, _, h3⟩ := h; exact h3 k hk
  kept := fun w w' S h hk hs => by
    obtain ⟨tv, tp, pv, nv, kv, ku, h1, h2, h3⟩ := h
    exact ⟨tv, tp, pv, nv, kv, ku, h1.kept fun k a b => hk k a (h2 k b), h2, fun k a => Nat.lt_of_lt_of_le (h3 k a) hs⟩
variable {w w' wr : World} {Bx : List (Nat × Obj)} {K T Kl Nl X T2 : Nat} {tv : Value} {tb : Option Nat} {q : Qm} {L : Cn} {x : Xm} {S : Nat → Prop}
set_option maxRecDepth 100000 in
theorem xq_step {tv2 tp2 pv nv kv ku : Value} {y : Xm} (h2 : ∀ k, mineX X pv nv kv ku k ∨ mineR T2 tv2 tp2 k → S k) (hr : XRet w X T2 tv2 tp2 pv nv kv ku [] y.P y.C y.M y.pu y.po y.pk y.re w') : ∃ S', (XqO X T2 y).P w' S' ∧ Stp S S' w w' := by
  obtain ⟨pv', nv', kv', ku', b1, b2, b3⟩ := hr
  refine ⟨fun k => mineX X pv' nv' kv' ku' k ∨ mineR T2 tv2 tp2 k, ⟨tv2, tp2, pv', nv', kv', ku', b1, fun _ h => h, b1.lt⟩, (Kept.refl S w).trans b2 fun k _ h => h2 k (.inl h), fun k hk hlt => ?_⟩
  rcases hk with hk | hk
  · exact h2 k (.inl (b3 k hk hlt))
  · exact h2 k (.inr hk)
abbrev LaX (w : World) (Bx : List (Nat × Obj)) (K T Kl Nl X T2 : Nat) (q : Qm) (L : Cn) (x : Xm) (wr : World) : Prop := LaS w Bx (XqO X T2 x) K T (.slice none 0 0) none [] Kl Nl q L wr
set_option maxRecDepth 100000 in
theorem lx_put (h : LaX w Bx K T Kl Nl X T2 q L x wr) (p : Int × Int) (n : Int) (hp : FitsPr p) (hn : FitsN n) (hl : x.C.length = x.P.length) (hPl : x.P.length ≤ 1000) (hMl : x.M.length ≤ 990) (hpu : 0 ≤ x.pu ∧ x.pu ≤ 100000) (hre : 0 ≤ x.re ∧ x.re ≤ 100000) :
    Calls Try.prog 11 #[.pointer (some ⟨X, 0, none⟩), .agg #[.int .i64 p.1, .int .i64 p.2], .int .i64 n] wr fun e w' => e = .returned (.tuple #[]) ∧ LaX w Bx K T Kl Nl X T2 q L (putM x p n) w' := by
  obtain ⟨Sq, Sl, Sx, h⟩ := h
  obtain ⟨tv2, tp2, pv, nv, kv, ku, h1, h2, h3⟩ := h.x
  refine (xput_any p n h1 hp hn hl hPl hMl hpu hre).mono fun e w' he => ?_
  obtain ⟨e1, hr⟩ := he
  have hr2 : XRet wr X T2 tv2 tp2 pv nv kv ku [] (putM x p n).P (putM x p n).C (putM x p n).M (putM x p n).pu (putM x p n).po (putM x p n).pk (putM x p n).re w' := by
    unfold XPutRet at hr
    unfold putM
    by_cases hn : n < 1
    · rw [if_pos hn] at hr ⊢; exact hr
    · rw [if_neg hn] at hr ⊢
      cases hm : manyQ (x.P.length + 1) (insC p n x.M).length with
      | true => rw [hm, cond_true] at hr; rw [cond_true]; exact hr
      | false => rw [hm, cond_false] at hr; rw [cond_false]; exact hr
  obtain ⟨S', r1, r2⟩ := xq_step h2 hr2
  exact ⟨e1, Sq, Sl, S', h.turnX r1 r2⟩
def LxPop (w : World) (Bx : List (Nat × Obj)) (K T Kl Nl X T2 : Nat) (q : Qm) (L : Cn) (x : Xm) (e : Ending) (w' : World) : Prop :=
  ∃ o P' C' n, Pops [] (getC L) (zipQ x.P x.C) o (zipQ P' C') n ∧ C'.length = P'.length ∧ e = .returned (xpopV o) ∧ LaX w Bx K T Kl Nl X T2 q L ⟨P', C', dropM x.M o, x.pu, x.po + (n : Int), x.pk, x.re⟩ w'
set_option maxRecDepth 100000 in
theorem lx_pop (h : LaX w Bx K T Kl Nl X T2 q L x wr) (hl : x.C.length = x.P.length) (hPl : x.P.length ≤ 1000) (hMl : x.M.length ≤ 1000) (hpo : 0 ≤ x.po ∧ x.po ≤ 100000) :
    Calls Try.prog 16 #[.pointer (some ⟨X, 0, none⟩), .pointer (some ⟨Kl, 0, none⟩)] wr (LxPop w Bx K T Kl Nl X T2 q L x) := by
  obtain ⟨Sq, Sl, Sx, h⟩ := h
  obtain ⟨tv2, tp2, pv, nv, kv, ku, h1, h2, h3⟩ := h.x
  obtain ⟨v, u, k1, k2, k3⟩ := h.lv
  refine (xpop_any h1 k1 (fun k hk1 hk2 => h.lx k (k2 k hk2) (h2 k (.inl hk1))) hl hPl hMl hpo).mono fun e w' he => ?_
  obtain ⟨o, P', C', n, a1, a2, a3, a4⟩ := he
  obtain ⟨S', r1, r2⟩ := xq_step (y := ⟨P', C', dropM x.M o, x.pu, x.po + (n : Int), x.pk, x.re⟩) h2 a4
  exact ⟨o, P', C', n, a1, a2, a3, Sq, Sl, S', h.turnX r1 r2⟩
set_option maxRecDepth 100000 in
theorem lx_stats (h : LaX w Bx K T Kl Nl X T2 q L x wr) : Calls Try.prog 19 #[.pointer (some ⟨K, 0, none⟩)] wr fun e w' => e = .returned (statsV q.pu q.po q.pk q.re) ∧ Grown wr w' := by
  obtain ⟨_, _, _, h⟩ := h
  exact zstats_any h.lz
set_option maxRecDepth 100000 in
/-- What the law reads of the document's queue. -/
theorem lx_cells (h : LaX w Bx K T Kl Nl X T2 q L x wr) : ∃ a c a2 c2, wr.cell? ⟨X, 1, none⟩ = some (.slice a x.P.length c) ∧ wr.cell? ⟨X, 3, none⟩ = some (.slice a2 x.M.length c2) ∧ wr.cell? ⟨X, 5, none⟩ = some (.int .i64 0) ∧ wr.cell? ⟨X, 6, none⟩ = some (.int .i64 0) ∧ wr.cell? ⟨X, 7, none⟩ = some (.int .i64 x.pu) ∧ wr.cell? ⟨X, 8, none⟩ = some (.int .i64 x.po) ∧ wr.cell? ⟨X, 9, none⟩ = some (.int .i64 x.pk) ∧ wr.cell? ⟨X, 10, none⟩ = some (.int .i64 x.re) := by
  obtain ⟨_, _, _, h⟩ := h
  obtain ⟨tv2, tp2, pv, nv, kv, ku, h1, _, _⟩ := h.x
  obtain ⟨_, c1, _, c3, _, c5, c6, c7, c8, c9, c10⟩ := h1.cells
  obtain ⟨a, c, e1, _⟩ := h1.rows.form
  obtain ⟨a2, c2, e2, _⟩ := h1.cnt.keys.form
  rw [keysC_len] at e2
  exact ⟨a, c, a2, c2, by rw [c1, e1], by rw [c3, e2], c5, c6, c7, c8, c9, c10⟩
end Go.Proofs.Ytbnekkcjkdghcaa
/- LazyPlays: through any deeds both queues tell the same. (Its text by wip/tools/gen_lplays.py.) -/
namespace Go.Proofs.Ytbnekkcjkdghcaa
open Go.RowKit Go.Maps Go.Shelf
open Go.Sort (grow grow_empty grow_grow alloc_eq_grow heap_grow_old)

set_option maxRecDepth 100000 in
theorem some_elts {α : Type} {R : Elt α} {w : World} {L : List α} {a : Option Addr} {n cap : Nat} (h : eltsAt R w (.slice a n cap) L) (hl : 0 < L.length) : ∃ ad, a = some ad := by
  obtain ⟨a', cap', e, hc⟩ := h
  cases e
  obtain ⟨ad, e, _, _⟩ := hc 0 hl
  exact ⟨ad, e⟩
set_option maxRecDepth 100000 in
theorem stats_neq_no (a b d f : Int) (w : World) : (binOp .neq 36 (.agg #[.int .i64 0, .int .i64 0, .int .i64 a, .int .i64 b, .int .i64 d, .int .i64 f]) (.agg #[.int .i64 0, .int .i64 0, .int .i64 a, .int .i64 b, .int .i64 d, .int .i64 f])).run Try.prog w = .ok (.bool false) w := by
  have u36 := Try.underlying36
  have u3 := Try.underlying3
  simp [go_sem, u36, u3]
set_option maxRecDepth 100000 in
/-- What both tell. -/
theorem both_v (o : Option Item) : ∃ a b c f, popV o = .tuple #[.agg #[.int .i64 a, .int .i64 b, .int .i64 c], .bool f] ∧ xpopV o = .tuple #[.agg #[.int .i64 a, .int .i64 b], .int .i64 c, .bool f] := by
  cases o with
  | none => exact ⟨0, 0, 0, false, rfl, rfl⟩
  | some x => exact ⟨x.1, x.2.1, x.2.2, true, rfl, rfl⟩
abbrev nilS : Value := .slice none 0 0
set_option maxRecDepth 100000 in
/-- The document's new queue. -/
theorem xq_new {w : World} {base T : Nat} {tv tp : Value} (h : Rtab w base T tv tp []) : XqIn (w.alloc (.cells (xqCells T nilS nilS nilS nilS 0 0 0 0) 38)) w.heap.size T tv tp nilS nilS nilS nilS [] [] [] [] 0 0 0 0 := by
  have hb : Below w.heap.size w (w.alloc (.cells (xqCells T nilS nilS nilS nilS 0 0 0 0) 38)) := (Below.refl _ w).alloc (Nat.le_refl _) _
  have ht := h.below hb
  refine ⟨⟨heap_alloc_new w _, rfl, rfl, Nat.zero_le _, ownE.nil _ _, ownE.nil _ _⟩, ⟨ht.cells, Nat.zero_le _, ht.texts.mono (Nat.zero_le _), ht.pairs.mono (Nat.zero_le _)⟩, ownE.nil _ _, ownE.nil _ _, GoodC.nil, good_nil, by simp, fun k h1 h2 => ?_, fun k e => by simp [Value.ownBlock] at e, fun k e => by simp [Value.ownBlock] at e⟩
  have hlt := (h.lt k h1).2
  rcases h2 with e | e | e | e | e
  · omega
  · simp [Value.ownBlock] at e
  · simp [Value.ownBlock] at e
  · simp [Value.ownBlock] at e
  · simp [Value.ownBlock] at e
def LpRel (w : World) (K T Kl Nl X T2 : Nat) (N : Nat) (i : Value) (wr : World) : Prop :=
  ∃ (k : Nat) (q : Qm) (L : Cn) (y : Xm), i = .int .i64 (k : Int) ∧ k ≤ N ∧ LaX w [] K T Kl Nl X T2 q L y wr ∧ TwinQ q y ∧ q.pu ≤ k ∧ L.length ≤ k
set_option maxRecDepth 100000 in
/-- The numbers of the document's queue are small. -/
theorem lp_small {q : Qm} {y : Xm} {k : Nat} (hs : SaneQ [] q) (ht : TwinQ q y) (hk : q.pu ≤ k) (h3 : k ≤ 300) : y.P.length ≤ 300 ∧ y.M.length ≤ 300 ∧ (0 ≤ y.pu ∧ y.pu ≤ 300) ∧ (0 ≤ y.re ∧ y.re ≤ 300) ∧ (0 ≤ y.po ∧ y.po ≤ 300) := by
  have h1 := hs.cnt
  have h2 := hs.po
  have h4 := hs.len
  have h5 := hs.re
  have h6 := ht.ents
  have h7 := ht.pu
  have h8 := ht.po
  have h9 := ht.re
  have h10 : q.known.length = y.M.length := by rw [ht.known]
  refine ⟨by omega, by omega, ⟨by omega, by omega⟩, ⟨by omega, by omega⟩, ⟨by omega, by omega⟩⟩
/-- The region in which both are compared: what it calls, in whatever world has grown. -/
structure LpT (K X : Nat) (wt : World) (nE nK : Nat) (s2 s3 s4 s5 : Int) : Prop where
  len : ∀ n os, Calls Try.prog 17 #[.pointer (some ⟨K, 0, none⟩)] (grow (wt.drewN n) os) fun e w' => e = .returned (.int .i64 (nE : Int)) ∧ ∃ q os', w' = grow ((grow (wt.drewN n) os).drewN q) os'
  known : ∀ n os, Calls Try.prog 18 #[.pointer (some ⟨K, 0, none⟩)] (grow (wt.drewN n) os) fun e w' => e = .returned (.int .i64 (nK : Int)) ∧ ∃ q os', w' = grow ((grow (wt.drewN n) os).drewN q) os'
  stats : ∀ n os, Calls Try.prog 19 #[.pointer (some ⟨K, 0, none⟩)] (grow (wt.drewN n) os) fun e w' => e = .returned (.agg #[.int .i64 0, .int .i64 0, .int .i64 s2, .int .i64 s3, .int .i64 s4, .int .i64 s5]) ∧ ∃ q os', w' = grow ((grow (wt.drewN n) os).drewN q) os'
  cells : ∃ a c a2 c2, ∀ n os, (grow (wt.drewN n) os).cell? ⟨X, 1, none⟩ = some (.slice a nE c) ∧ (grow (wt.drewN n) os).cell? ⟨X, 3, none⟩ = some (.slice a2 nK c2) ∧ (grow (wt.drewN n) os).cell? ⟨X, 5, none⟩ = some (.int .i64 0) ∧ (grow (wt.drewN n) os).cell? ⟨X, 6, none⟩ = some (.int .i64 0) ∧ (grow (wt.drewN n) os).cell? ⟨X, 7, none⟩ = some (.int .i64 s2) ∧ (grow (wt.drewN n) os).cell? ⟨X, 8, none⟩ = some (.int .i64 s3) ∧ (grow (wt.drewN n) os).cell? ⟨X, 9, none⟩ = some (.int .i64 s4) ∧ (grow (wt.drewN n) os).cell? ⟨X, 10, none⟩ = some (.int .i64 s5)
set_option maxRecDepth 100000 in
theorem lp_tail {w wt : World} {Bx : List (Nat × Obj)} {K T Kl Nl X T2 : Nat} {q : Qm} {L : Cn} {y : Xm} (h : LaX w Bx K T Kl Nl X T2 q L y wt) (ht : TwinQ q y) : LpT K X wt y.P.length y.M.length y.pu y.po y.pk y.re where
  len := fun n os => (la_len (h.grown (Grown.of wt n os))).mono fun e w' he => ⟨by rw [he.1, ht.ents], by rw [he.2]; exact Grown.refl _⟩
  known := fun n os => (la_known (h.grown (Grown.of wt n os))).mono fun e w' he => ⟨by rw [he.1, ht.known], by rw [he.2]; exact Grown.refl _⟩
  stats := fun n os => (lx_stats (h.grown (Grown.of wt n os))).mono fun e w' he => ⟨by rw [he.1, ht.pu, ht.po, ht.pk, ht.re]; rfl, he.2⟩
  cells := by
    obtain ⟨a, c, a2, c2, h1, h2, h3, h4, h5, h6, h7, h8⟩ := lx_cells h
    exact ⟨a, c, a2, c2, fun n os => ⟨cell_grown_at h1 n os, cell_grown_at h2 n os, cell_grown_at h3 n os, cell_grown_at h4 n os, cell_grown_at h5 n os, cell_grown_at h6 n os, cell_grown_at h7 n os, cell_grown_at h8 n os⟩⟩
set_option maxRecDepth 100000 in
set_option maxHeartbeats 16000000 in
theorem lazyPlays_walk (x : Value) (w : World) (D : List DeedL) (hx : eltsAt ldeedE w x D) (_ : D.length ≤ maxLen) (hfit : ∀ d ∈ D, FitsDl d) (hnil : nilNone x) (_ : ∀ a n c, x = .slice a n c → n ≤ c) :
    Calls Try.prog 3 #[x] w fun e w' => e = .returned (.bool true) ∧ Below w.heap.size w w' := by
  have HX := Lib.hid hx
  have HFIT := Lib.hid hfit
  obtain ⟨a, cap, rfl, _⟩ := id hx
  obtain ⟨N, hN⟩ : ∃ N, D.length = N := ⟨_, rfl⟩
  have HN := Lib.hid hN
  rw [hN] at HX ⊢
  have cA := awake_any w
  have hmixed : Try.prog.follows .mixedOrders = true := by kernel_rfl
  clear hx hfit hnil hN
  go_enter Try.func3, Try.ntmps3
  go_wp2_with fail
  refine cA.mono ?_
  rintro e w1 ⟨rfl, hb1⟩
  have HB1 := Lib.hid hb1
  clear hb1 cA
  by_cases h300 : (300 : Int) < (N : Int)
  · go_wp2
    go_ret
    exact ⟨rfl, HB1.out⟩
  · have hN2 : N ≤ 300 := by omega
    obtain ⟨w2, hw2⟩ : ∃ w2, w1.alloc (.cells #[.slice none 0 0, .map none] 70) = w2 := ⟨_, rfl⟩
    have cS := snew_any w1
    rw [hw2] at cS
    have hst : Stab w2 w1.heap.size (.slice none 0 0) none [] := by rw [← hw2]; exact new_stab w1
    have cN := znew_any _ _ _ _ w2 hst (by simp)
    have HB2 : Hid (Below w.heap.size w w2) := Lib.hid (HB1.out.trans ((by rw [← hw2]; exact (Below.refl _ w1).alloc (Nat.le_refl _) _ : Below w1.heap.size w1 w2).mono HB1.out.size))
    clear hst hw2
    go_wp2_with fail
    refine cS.mono ?_
    rintro e w9 ⟨rfl, rfl⟩
    go_wp2_with fail
    refine cN.mono ?_
    rintro e w3 ⟨K, S, rfl, hz, hb3, hS⟩
    have cR := rnew_any w3
    obtain ⟨T2, hT2⟩ : ∃ T2, w3.heap.size = T2 := ⟨_, rfl⟩
    have HZ := Lib.hid hz
    have HB3 := Lib.hid hb3
    have HSS : Hid (∀ k, S k → w.heap.size ≤ k) := Lib.hid fun k hk => by
      rcases hS k hk with h | h | h | h
      · exact Nat.le_trans HB2.out.size h
      · rw [h]; exact HB1.out.size
      · simp [Value.ownBlock] at h
      · cases h
    have HT2 := Lib.hid hT2
    unfold RNewRet at cR
    rw [hT2] at cR
    clear hz hb3 hS hT2 cN cS
    go_wp2_with fail
    refine cR.mono ?_
    rintro e w4 ⟨v2, p2, rfl, hr, hb4⟩
    obtain ⟨X, hX⟩ : ∃ X, w4.heap.size = X := ⟨_, rfl⟩
    have hxq := xq_new hr
    rw [hX] at hxq
    obtain ⟨w5, hw5⟩ : ∃ w5, w4.alloc (.cells #[.pointer (some ⟨T2, 0, none⟩), .slice none 0 0, .slice none 0 0, .slice none 0 0, .slice none 0 0, .int .i64 0, .int .i64 0, .int .i64 0, .int .i64 0, .int .i64 0, .int .i64 0] 38) = w5 := ⟨_, rfl⟩
    rw [hw5] at hxq
    have hb5 : Below w4.heap.size w4 w5 := by rw [← hw5]; exact (Below.refl _ w4).alloc (Nat.le_refl _) _
    have h43 : w3.heap.size ≤ w4.heap.size := hb4.size
    have hb35 : Below w3.heap.size w3 w5 := (HT2.out ▸ hb4 : Below w3.heap.size w3 w4).trans (hb5.mono h43)
    have hmr : ∀ k, mineX X nilS nilS nilS nilS k ∨ mineR T2 v2 p2 k → w3.heap.size ≤ k := by
      rintro k ((e | e | e | e | e) | e)
      · omega
      · simp [Value.ownBlock] at e
      · simp [Value.ownBlock] at e
      · simp [Value.ownBlock] at e
      · simp [Value.ownBlock] at e
      · have := (hr.lt k e).1; have := HT2.out; omega
    have hst := la_start (w := w) (w3 := w5) (X := XqO X T2 newX) (Sx := fun k => mineX X nilS nilS nilS nilS k ∨ mineR T2 v2 p2 k) (HZ.out.below hb35) HSS.out
      ⟨v2, p2, nilS, nilS, nilS, nilS, hxq, fun _ h => h, hxq.lt⟩ (fun k hk => Nat.le_trans (Nat.le_trans HB2.out.size HB3.out.size) (hmr k hk)) (fun k h1 h2 => by have := HZ.out.lt k h1; have := hmr k h2; omega)
      ((HB2.out.trans (HB3.out.mono HB2.out.size)).trans (hb35.mono (Nat.le_trans HB2.out.size HB3.out.size)))
    obtain ⟨Kl, hKl⟩ : ∃ Kl, w5.heap.size = Kl := ⟨_, rfl⟩
    rw [hKl] at hst
    obtain ⟨w6, hw6⟩ : ∃ w6, w5.alloc (.cells #[.slice none 0 0, .slice none 0 0] 34) = w6 := ⟨_, rfl⟩
    rw [hw6] at hst
    have z6 : w6.heap.size = Kl + 1 := by rw [← hw6, World.size_alloc, hKl]
    obtain ⟨w7, hw7⟩ : ∃ w7, w6.alloc (.cells #[.pointer (some ⟨Kl, 0, none⟩)] 39) = w7 := ⟨_, rfl⟩
    rw [hw7] at hst
    have HST : Hid (LpRel w K w1.heap.size Kl (Kl + 1) X T2 N (.int .i64 ((0 : Nat) : Int)) w7) := Lib.hid ⟨0, newQ, [], newX, rfl, Nat.zero_le _, hst, twin_new, by simp [newQ], by simp⟩
    clear cR hr hb4 hxq hb5 h43 hb35 hmr hst
    go_wp2_with fail
    go_loopw [6] (fun i wr => LpRel w K w1.heap.size Kl (Kl + 1) X T2 N i wr) (fun i _ => N - (intOf i).toNat)
    case atStart => exact HST.out
    case round =>
      clear HST hw5 hw6 hw7 z6 hKl hX
      obtain ⟨k, q, L, y, rfl, hkN, hla, htw, hpu, hll⟩ := hrel
      have HLA := Lib.hid hla; have HTW0 := Lib.hid htw
      by_cases hgo : k < N
      · have hgoI : (k : Int) < (N : Int) := by omega
        have hk0 : (0 : Int) ≤ (k : Int) := by omega
        have hkD : k < D.length := by rw [HN.out]; exact hgo
        obtain ⟨ad, rfl⟩ := some_elts HX.out (by rw [HN.out]; omega)
        obtain ⟨c0, c1, c2, c3⟩ := ldeeds_at HX.out hla.bel hkD
        obtain ⟨f0, f1, f2⟩ := HFIT.out D[k] (List.getElem_mem _)
        obtain ⟨⟨kd, ⟨pa, pb⟩, d⟩, hd⟩ : ∃ y, D[k] = y := ⟨_, rfl⟩
        rw [hd] at c0 c1 c2 c3 f0 f1 f2
        simp only at c0 c1 c2 c3 f0 f1 f2
        have HSM := Lib.hid (lp_small hla.sane htw hpu (by omega))
        have HPU0 := Lib.hid hpu
        have HLL0 := Lib.hid hll
        obtain ⟨Mp, hM⟩ : ∃ Mp, wr.heap.size = Mp := ⟨_, rfl⟩
        obtain ⟨ws, hws⟩ : ∃ ws, wr.alloc (.cells #[.int .i64 pa, .int .i64 pb] 41) = ws := ⟨_, rfl⟩
        have hls := hla.box #[.int .i64 pa, .int .i64 pb] 41
        rw [hM, hws] at hls
        have HBE : Hid (Below w.heap.size w ws) := Lib.hid hls.bel
        have HBX : Hid (∀ W q L y Bx, LaX w ((Mp, .cells #[.int .i64 pa, .int .i64 pb] 41 (0, 0)) :: Bx) K w1.heap.size Kl (Kl + 1) X T2 q L y W → W.cell? ⟨Kl + 1, 0, none⟩ = some (.pointer (some ⟨Kl, 0, none⟩)) ∧ W.cell? ⟨Mp, 0, none⟩ = some (.int .i64 pa) ∧ W.cell? ⟨Mp, 1, none⟩ = some (.int .i64 pb) ∧ W.cell? ⟨(ad.add (k * 4)).block, (ad.add (k * 4)).off + 3, none⟩ = some (.int .i64 d)) := Lib.hid fun W q L y Bx h => by
          have h1 := h.at List.mem_cons_self
          have h2 := (ldeeds_at HX.out h.bel hkD).2.2.2
          rw [hd] at h2
          exact ⟨h.live, by rw [cell_of_row W Mp _ _ 41 (0, 0) h1]; rfl, by rw [cell_of_row W Mp _ _ 41 (0, 0) h1]; rfl, h2⟩
        obtain ⟨b0, b1, b2, b3⟩ := HBX.out _ _ _ _ _ hls
        obtain ⟨c0s, _, _, _⟩ := ldeeds_at HX.out hls.bel hkD
        rw [hd] at c0s
        simp only at c0s
        have HLS := Lib.hid hls
        clear hls hla htw hpu hll
        by_cases r1 : pa < 0
        · go_wp2
          go_ret
          exact ⟨rfl, HBE.out⟩
        · by_cases r2 : 255 < pa
          · go_wp2
            go_ret
            exact ⟨rfl, HBE.out⟩
          · by_cases r3 : pb < 0
            · go_wp2
              go_ret
              exact ⟨rfl, HBE.out⟩
            · by_cases r4 : 255 < pb
              · go_wp2
                go_ret
                exact ⟨rfl, HBE.out⟩
              · have hfp : FitsPr (pa, pb) := f1
                have hfd : FitsN d := f2
                have htA : thereOf [] pa = true := there_byte (by omega) (by omega)
                have htB : thereOf [] pb = true := there_byte (by omega) (by omega)
                have HQ300 : Hid (q.pu ≤ 80000) := Lib.hid (by have := HPU0.out; omega)
                by_cases k0 : kd = 0
                · subst k0
                  have HPA : Hid (∀ W, LaX w [(Mp, .cells #[.int .i64 pa, .int .i64 pb] 41 (0, 0))] K w1.heap.size Kl (Kl + 1) X T2 q L y W → Calls Try.prog 10 #[.pointer (some ⟨K, 0, none⟩), .agg #[.int .i64 pa, .int .i64 pb], .int .i64 d] W fun e w' => e = .returned (.tuple #[]) ∧ LaX w [(Mp, .cells #[.int .i64 pa, .int .i64 pb] 41 (0, 0))] K w1.heap.size Kl (Kl + 1) X T2 (putQ q (pa, pb) d) L y w') := Lib.hid fun W h => la_put h (pa, pb) d hfp htA htB hfd HQ300.out
                  have HPX : Hid (∀ W, LaX w [(Mp, .cells #[.int .i64 pa, .int .i64 pb] 41 (0, 0))] K w1.heap.size Kl (Kl + 1) X T2 (putQ q (pa, pb) d) L y W → Calls Try.prog 11 #[.pointer (some ⟨X, 0, none⟩), .agg #[.int .i64 pa, .int .i64 pb], .int .i64 d] W fun e w' => e = .returned (.tuple #[]) ∧ LaX w [(Mp, .cells #[.int .i64 pa, .int .i64 pb] 41 (0, 0))] K w1.heap.size Kl (Kl + 1) X T2 (putQ q (pa, pb) d) L (putM y (pa, pb) d) w') := Lib.hid fun W h => by
                    obtain ⟨m1, m2, m3, m4, _⟩ := HSM.out
                    exact lx_put h (pa, pb) d hfp hfd HTW0.out.len (by omega) (by omega) ⟨m3.1, by omega⟩ ⟨m4.1, by omega⟩
                  go_wp2_with fail
                  go_region_held3 (fun w' => w'.cell? ⟨Kl + 1, 0, none⟩ = some (.pointer (some ⟨Kl, 0, none⟩)) ∧ w'.cell? ⟨Mp, 0, none⟩ = some (.int .i64 pa) ∧ w'.cell? ⟨Mp, 1, none⟩ = some (.int .i64 pb) ∧ w'.cell? ⟨(ad.add (k * 4)).block, (ad.add (k * 4)).off + 3, none⟩ = some (.int .i64 d))
                    (first | with_reducible exact HBX.out _ _ _ _ _ HLS.out.drew | with_reducible exact HBX.out _ _ _ _ _ HLS.out | with_reducible exact HBX.out _ _ _ _ _ hl4 | with_reducible exact HBX.out _ _ _ _ _ hl4.drew)
                    ((go_at_call 10
                      refine (HPA.out _ (by first | exact HLS.out | exact HLS.out.drew)).mono ?_
                      rintro e w40 ⟨rfl, hl4⟩))
                  have HL4 := Lib.hid hl4
                  clear hl4
                  go_wp2_with fail
                  go_region_held3 (fun w' => w'.cell? ⟨Kl + 1, 0, none⟩ = some (.pointer (some ⟨Kl, 0, none⟩)) ∧ w'.cell? ⟨Mp, 0, none⟩ = some (.int .i64 pa) ∧ w'.cell? ⟨Mp, 1, none⟩ = some (.int .i64 pb) ∧ w'.cell? ⟨(ad.add (k * 4)).block, (ad.add (k * 4)).off + 3, none⟩ = some (.int .i64 d))
                    (first | with_reducible exact HBX.out _ _ _ _ _ HL4.out.drew | with_reducible exact HBX.out _ _ _ _ _ HL4.out | with_reducible exact HBX.out _ _ _ _ _ hl5 | with_reducible exact HBX.out _ _ _ _ _ hl5.drew)
                    ((go_at_call 11
                      refine (HPX.out _ (by first | exact HL4.out | exact HL4.out.drew)).mono ?_
                      rintro e wt ⟨rfl, hl5⟩))
                  have HLT := Lib.hid hl5
                  have HTW := Lib.hid (HTW0.out.put (pa, pb) d)
                  have HPU : Hid ((putQ q (pa, pb) d).pu ≤ ((k + 1 : Nat) : Int)) := Lib.hid (by have := putQ_pu q (pa, pb) d; have := HPU0.out; omega)
                  have HLL : Hid (L.length ≤ k + 1) := Lib.hid (by have := HLL0.out; omega)
                  clear hl5 HPA HPX
                  have hT := lp_tail HLT.out HTW.out
                  obtain ⟨nE, hnE⟩ : ∃ n, (putM y (pa, pb) d).P.length = n := ⟨_, rfl⟩
                  obtain ⟨nK, hnK⟩ : ∃ n, (putM y (pa, pb) d).M.length = n := ⟨_, rfl⟩
                  obtain ⟨s2, hs2⟩ : ∃ n, (putM y (pa, pb) d).pu = n := ⟨_, rfl⟩
                  obtain ⟨s3, hs3⟩ : ∃ n, (putM y (pa, pb) d).po = n := ⟨_, rfl⟩
                  obtain ⟨s4, hs4⟩ : ∃ n, (putM y (pa, pb) d).pk = n := ⟨_, rfl⟩
                  obtain ⟨s5, hs5⟩ : ∃ n, (putM y (pa, pb) d).re = n := ⟨_, rfl⟩
                  rw [hnE, hnK, hs2, hs3, hs4, hs5] at hT
                  obtain ⟨a, c, a2, c2, hcs⟩ := hT.cells
                  have t1 := fun n os => (hcs n os).1
                  have t2 := fun n os => (hcs n os).2.1
                  have t3 := fun n os => (hcs n os).2.2.1
                  have t4 := fun n os => (hcs n os).2.2.2.1
                  have t5 := fun n os => (hcs n os).2.2.2.2.1
                  have t6 := fun n os => (hcs n os).2.2.2.2.2.1
                  have t7 := fun n os => (hcs n os).2.2.2.2.2.2.1
                  have t8 := fun n os => (hcs n os).2.2.2.2.2.2.2
                  have HLE := Lib.hid hT.len
                  have HKE := Lib.hid hT.known
                  have HSE := Lib.hid hT.stats
                  have hsn := stats_neq_no s2 s3 s4 s5
                  have hn1 : ((nE : Int) != (nE : Int)) = false := by simp
                  have hn2 : ((nK : Int) != (nK : Int)) = false := by simp
                  clear hT hcs hnE hnK hs2 hs3 hs4 hs5
                  go_wp2_with fail
                  refine wp_region_quiet_grown (by assumption) (by kernel_rfl) ?_
                  repeat (first | go_big_quiet_skip | quiet_step (first | (go_at_call 17; refine Calls.grown_of (HLE.out _ _)) | (go_at_call 18; refine Calls.grown_of (HKE.out _ _)) | (go_at_call 19; refine Calls.grown_of (HSE.out _ _))))
                  refine wpQuiet_nil ?_
                  intro _ hw'
                  obtain ⟨⟨nq, osq⟩, hw''⟩ := hw'
                  subst hw''
                  dsimp only
                  have HLW := Lib.hid (HLT.out.grown (Grown.of wt nq osq))
                  clear t1 t2 t3 t4 t5 t6 t7 t8 HLE HKE HSE hsn
                  generalize grow (wt.drewN nq) osq = wz at *
                  go_wp2
                  go_roundw
                  case rel => exact ⟨k + 1, putQ q (pa, pb) d, L, putM y (pa, pb) d, by simp, hgo, HLW.out.sub (fun b hb => by simp at hb), HTW.out, HPU.out, HLL.out⟩
                  case measure => simp [intOf]; omega
                · have hk0n : (kd == 0) = false := beq_eq_false_iff_ne.2 k0
                  clear k0
                  by_cases k1 : kd = 1
                  · subst k1
                    clear hk0n
                    obtain ⟨n, hn⟩ : ∃ n, max d 0 = n := ⟨_, rfl⟩
                    have hn0 : 0 ≤ n := by omega
                    have hn1 : FitsN n := ⟨by omega, by have := hfd.2; omega⟩
                    obtain ⟨hgd, hLl⟩ := HLS.out.good
                    obtain ⟨g0, g1⟩ := hgd.get (pa, pb)
                    have hneg : IntKind.i64.wrap (-(getC L (pa, pb))) = -(getC L (pa, pb)) := IntWalk.i64_in _ (by omega)
                    have HGE : Hid (∀ W, LaX w [(Mp, .cells #[.int .i64 pa, .int .i64 pb] 41 (0, 0))] K w1.heap.size Kl (Kl + 1) X T2 q L y W → Calls Try.prog 13 #[.pointer (some ⟨Kl, 0, none⟩), .agg #[.int .i64 pa, .int .i64 pb]] W fun e w' => e = .returned (.int .i64 (getC L (pa, pb))) ∧ LaX w [(Mp, .cells #[.int .i64 pa, .int .i64 pb] 41 (0, 0))] K w1.heap.size Kl (Kl + 1) X T2 q L y w') := Lib.hid fun W h => (la_get h pa pb).mono fun e w' he => ⟨he.1, h.grown he.2⟩
                    have HAD : Hid (∀ W, LaX w [(Mp, .cells #[.int .i64 pa, .int .i64 pb] 41 (0, 0))] K w1.heap.size Kl (Kl + 1) X T2 q L y W → Calls Try.prog 12 #[.pointer (some ⟨Kl, 0, none⟩), .agg #[.int .i64 pa, .int .i64 pb], .int .i64 (-(getC L (pa, pb))), .int .i64 1] W fun e w' => e = .returned (.int .i64 0) ∧ LaX w [(Mp, .cells #[.int .i64 pa, .int .i64 pb] 41 (0, 0))] K w1.heap.size Kl (Kl + 1) X T2 q (delC L (pa, pb)) y w') := Lib.hid fun W h => by
                      have hdl := del_len_le L (pa, pb)
                      have c := la_add h pa pb (-(getC L (pa, pb))) 1 hfp ⟨by omega, by omega⟩ ⟨by omega, by omega⟩ (by rw [add_forget hgd]; simp only; omega)
                      rw [add_forget hgd] at c
                      exact c
                    have HAB : Hid (∀ W, LaX w [(Mp, .cells #[.int .i64 pa, .int .i64 pb] 41 (0, 0))] K w1.heap.size Kl (Kl + 1) X T2 q (delC L (pa, pb)) y W → Calls Try.prog 12 #[.pointer (some ⟨Kl, 0, none⟩), .agg #[.int .i64 pa, .int .i64 pb], .int .i64 n, .int .i64 1] W fun e w' => e = .returned (.int .i64 0) ∧ LaX w [(Mp, .cells #[.int .i64 pa, .int .i64 pb] 41 (0, 0))] K w1.heap.size Kl (Kl + 1) X T2 q (setC L (pa, pb) n) y w') := Lib.hid fun W h => by
                      have hdl := del_len_le L (pa, pb)
                      have hgz := get_delC hgd.ris (pa, pb)
                      have hsl := set_len (ris_del hgd.ris (pa, pb)) (pa, pb) n
                      have hll := HLL0.out
                      have c := la_add h pa pb n 1 hfp ⟨by omega, hn1.2⟩ ⟨by omega, by omega⟩ (by rw [add_fresh hgz hn0 hn1.2]; simp only; omega)
                      rw [add_fresh hgz hn0 hn1.2, set_delC hgd.ris] at c
                      exact c
                    have HSL : Hid ((setC L (pa, pb) n).length ≤ k + 1) := Lib.hid (by have := set_len hgd.ris (pa, pb) n; have := HLL0.out; omega)
                    clear hgd
                    go_wp2_with fail
                    go_region_held3 (fun w' => w'.cell? ⟨Kl + 1, 0, none⟩ = some (.pointer (some ⟨Kl, 0, none⟩)) ∧ w'.cell? ⟨Mp, 0, none⟩ = some (.int .i64 pa) ∧ w'.cell? ⟨Mp, 1, none⟩ = some (.int .i64 pb) ∧ w'.cell? ⟨(ad.add (k * 4)).block, (ad.add (k * 4)).off + 3, none⟩ = some (.int .i64 d))
                      (first | with_reducible exact HBX.out _ _ _ _ _ HLS.out.drew | with_reducible exact HBX.out _ _ _ _ _ HLS.out | with_reducible exact HBX.out _ _ _ _ _ hl5 | with_reducible exact HBX.out _ _ _ _ _ hl5.drew | with_reducible exact HBX.out _ _ _ _ _ hl4 | with_reducible exact HBX.out _ _ _ _ _ hl4.drew)
                      (first
                        | (go_at_call 13
                           refine (HGE.out _ (by first | exact HLS.out | exact HLS.out.drew)).mono ?_
                           rintro e w40 ⟨rfl, hl4⟩)
                        | (go_at_call 12
                           refine (HAD.out _ (by first | exact hl4 | exact hl4.drew)).mono ?_
                           rintro e w50 ⟨rfl, hl5⟩))
                    all_goals (
                      have HL5 := Lib.hid hl5
                      clear hl4 hl5 HGE HAD hneg
                      go_wp2_with fail
                      go_region_held3 (fun w' => w'.cell? ⟨Kl + 1, 0, none⟩ = some (.pointer (some ⟨Kl, 0, none⟩)) ∧ w'.cell? ⟨Mp, 0, none⟩ = some (.int .i64 pa) ∧ w'.cell? ⟨Mp, 1, none⟩ = some (.int .i64 pb) ∧ w'.cell? ⟨(ad.add (k * 4)).block, (ad.add (k * 4)).off + 3, none⟩ = some (.int .i64 d))
                        (first | with_reducible exact HBX.out _ _ _ _ _ HL5.out.drew | with_reducible exact HBX.out _ _ _ _ _ HL5.out | with_reducible exact HBX.out _ _ _ _ _ hl6 | with_reducible exact HBX.out _ _ _ _ _ hl6.drew)
                        ((go_at_call 12
                          refine (HAB.out _ (by first | exact HL5.out | exact HL5.out.drew)).mono ?_
                          rintro e wt ⟨rfl, hl6⟩))
                      have HLT := Lib.hid hl6
                      have HTW := HTW0
                      have HPU : Hid (q.pu ≤ ((k + 1 : Nat) : Int)) := Lib.hid (by have := HPU0.out; omega)
                      have HLL := HSL
                      clear hl6 HAB hn
                      have hT := lp_tail HLT.out HTW.out
                      obtain ⟨nE, hnE⟩ : ∃ n, (y).P.length = n := ⟨_, rfl⟩
                      obtain ⟨nK, hnK⟩ : ∃ n, (y).M.length = n := ⟨_, rfl⟩
                      obtain ⟨s2, hs2⟩ : ∃ n, (y).pu = n := ⟨_, rfl⟩
                      obtain ⟨s3, hs3⟩ : ∃ n, (y).po = n := ⟨_, rfl⟩
                      obtain ⟨s4, hs4⟩ : ∃ n, (y).pk = n := ⟨_, rfl⟩
                      obtain ⟨s5, hs5⟩ : ∃ n, (y).re = n := ⟨_, rfl⟩
                      rw [hnE, hnK, hs2, hs3, hs4, hs5] at hT
                      obtain ⟨a, c, a2, c2, hcs⟩ := hT.cells
                      have t1 := fun n os => (hcs n os).1
                      have t2 := fun n os => (hcs n os).2.1
                      have t3 := fun n os => (hcs n os).2.2.1
                      have t4 := fun n os => (hcs n os).2.2.2.1
                      have t5 := fun n os => (hcs n os).2.2.2.2.1
                      have t6 := fun n os => (hcs n os).2.2.2.2.2.1
                      have t7 := fun n os => (hcs n os).2.2.2.2.2.2.1
                      have t8 := fun n os => (hcs n os).2.2.2.2.2.2.2
                      have HLE := Lib.hid hT.len
                      have HKE := Lib.hid hT.known
                      have HSE := Lib.hid hT.stats
                      have hsn := stats_neq_no s2 s3 s4 s5
                      have hn1 : ((nE : Int) != (nE : Int)) = false := by simp
                      have hn2 : ((nK : Int) != (nK : Int)) = false := by simp
                      clear hT hcs hnE hnK hs2 hs3 hs4 hs5
                      go_wp2_with fail
                      refine wp_region_quiet_grown (by assumption) (by kernel_rfl) ?_
                      repeat (first | go_big_quiet_skip | quiet_step (first | (go_at_call 17; refine Calls.grown_of (HLE.out _ _)) | (go_at_call 18; refine Calls.grown_of (HKE.out _ _)) | (go_at_call 19; refine Calls.grown_of (HSE.out _ _))))
                      refine wpQuiet_nil ?_
                      intro _ hw'
                      obtain ⟨⟨nq, osq⟩, hw''⟩ := hw'
                      subst hw''
                      dsimp only
                      have HLW := Lib.hid (HLT.out.grown (Grown.of wt nq osq))
                      clear t1 t2 t3 t4 t5 t6 t7 t8 HLE HKE HSE hsn
                      generalize grow (wt.drewN nq) osq = wz at *
                      go_wp2
                      go_roundw
                      case rel => exact ⟨k + 1, q, setC L (pa, pb) n, y, by simp, hgo, HLW.out.sub (fun b hb => by simp at hb), HTW.out, HPU.out, HLL.out⟩
                      case measure => simp [intOf]; omega
                      )
                  · have hk1n : (kd == 1) = false := beq_eq_false_iff_ne.2 k1
                    clear k1
                    by_cases k2 : kd = 2
                    · subst k2
                      clear hk0n hk1n
                      have cP := la_pop (fun v u => live_LazyPlays_1 Kl (Kl + 1) v u L) HLS.out HQ300.out
                      go_wp2_with fail
                      refine cP.mono ?_
                      rintro e w40 ⟨o, l, n, hpo, rfl, hl4⟩
                      obtain ⟨ia, ib, ic, fl, hpv, hxv⟩ := both_v o
                      rw [hpv]
                      obtain ⟨q2, hq2⟩ : ∃ q2, popQ q o l n = q2 := ⟨_, rfl⟩
                      rw [hq2] at hl4
                      obtain ⟨M4, hM4⟩ : ∃ M, w40.heap.size = M := ⟨_, rfl⟩
                      obtain ⟨wb, hwb⟩ : ∃ wb, w40.alloc (.cells #[.int .i64 ia, .int .i64 ib, .int .i64 ic] 48) = wb := ⟨_, rfl⟩
                      have hlb := hl4.box #[.int .i64 ia, .int .i64 ib, .int .i64 ic] 48
                      rw [hM4, hwb] at hlb
                      have l0 := hlb.live
                      have cX := (by
                        obtain ⟨m1, m2, m3, m4, m5⟩ := HSM.out
                        exact lx_pop hlb HTW0.out.len (by omega) (by omega) ⟨m5.1, by omega⟩ : Calls Try.prog 16 #[.pointer (some ⟨X, 0, none⟩), .pointer (some ⟨Kl, 0, none⟩)] wb _)
                      have HPO := Lib.hid hpo
                      have HQ2 := Lib.hid hq2
                      have HXV := Lib.hid hxv
                      clear hlb hl4 hpo hq2 hxv hpv cP
                      go_wp2_with fail
                      refine cX.mono ?_
                      rintro e w41 ⟨o2, P', C', n2, hpd, hlen, rfl, hl6⟩
                      obtain ⟨rfl, htw2⟩ := HTW0.out.pop HLS.out.sane HPO.out hpd hlen
                      rw [HXV.out]
                      rw [HQ2.out] at htw2
                      obtain ⟨y2, hy2⟩ : ∃ y2, (⟨P', C', dropM y.M o, y.pu, y.po + (n2 : Int), y.pk, y.re⟩ : Xm) = y2 := ⟨_, rfl⟩
                      rw [hy2] at htw2 hl6
                      obtain ⟨M5, hM5⟩ : ∃ M, w41.heap.size = M := ⟨_, rfl⟩
                      obtain ⟨wt, hwt⟩ : ∃ wt, w41.alloc (.cells #[.int .i64 ia, .int .i64 ib] 41) = wt := ⟨_, rfl⟩
                      have hlt := hl6.box #[.int .i64 ia, .int .i64 ib] 41
                      rw [hM5, hwt] at hlt
                      have hb5 := hlt.at List.mem_cons_self
                      have hb4 := hlt.at (List.mem_cons_of_mem _ List.mem_cons_self)
                      have e0 : wt.cell? ⟨M5, 0, none⟩ = some (.int .i64 ia) := by rw [cell_of_row wt M5 _ _ 41 (0, 0) hb5]; rfl
                      have e1 : wt.cell? ⟨M5, 1, none⟩ = some (.int .i64 ib) := by rw [cell_of_row wt M5 _ _ 41 (0, 0) hb5]; rfl
                      have e2 : wt.cell? ⟨M4, 0, none⟩ = some (.int .i64 ia) := by rw [cell_of_row wt M4 _ _ 48 (0, 0) hb4]; rfl
                      have e3 : wt.cell? ⟨M4, 1, none⟩ = some (.int .i64 ib) := by rw [cell_of_row wt M4 _ _ 48 (0, 0) hb4]; rfl
                      have e4 : wt.cell? ⟨M4, 2, none⟩ = some (.int .i64 ic) := by rw [cell_of_row wt M4 _ _ 48 (0, 0) hb4]; rfl
                      have hfl : (fl != fl) = false := by simp
                      have hin := item_neq_no ia ib ic
                      have HLT := Lib.hid hlt
                      have HTW := Lib.hid htw2
                      have HPU : Hid (q2.pu ≤ ((k + 1 : Nat) : Int)) := Lib.hid (by rw [← HQ2.out, popQ_pu]; have := HPU0.out; omega)
                      have HLL : Hid (L.length ≤ k + 1) := Lib.hid (by have := HLL0.out; omega)
                      clear hlt hl6 htw2 hy2 hpd hlen hb5 hb4 cX
                      have hT := lp_tail HLT.out HTW.out
                      obtain ⟨nE, hnE⟩ : ∃ n, (y2).P.length = n := ⟨_, rfl⟩
                      obtain ⟨nK, hnK⟩ : ∃ n, (y2).M.length = n := ⟨_, rfl⟩
                      obtain ⟨s2, hs2⟩ : ∃ n, (y2).pu = n := ⟨_, rfl⟩
                      obtain ⟨s3, hs3⟩ : ∃ n, (y2).po = n := ⟨_, rfl⟩
                      obtain ⟨s4, hs4⟩ : ∃ n, (y2).pk = n := ⟨_, rfl⟩
                      obtain ⟨s5, hs5⟩ : ∃ n, (y2).re = n := ⟨_, rfl⟩
                      rw [hnE, hnK, hs2, hs3, hs4, hs5] at hT
                      obtain ⟨a, c, a2, c2, hcs⟩ := hT.cells
                      have t1 := fun n os => (hcs n os).1
                      have t2 := fun n os => (hcs n os).2.1
                      have t3 := fun n os => (hcs n os).2.2.1
                      have t4 := fun n os => (hcs n os).2.2.2.1
                      have t5 := fun n os => (hcs n os).2.2.2.2.1
                      have t6 := fun n os => (hcs n os).2.2.2.2.2.1
                      have t7 := fun n os => (hcs n os).2.2.2.2.2.2.1
                      have t8 := fun n os => (hcs n os).2.2.2.2.2.2.2
                      have HLE := Lib.hid hT.len
                      have HKE := Lib.hid hT.known
                      have HSE := Lib.hid hT.stats
                      have hsn := stats_neq_no s2 s3 s4 s5
                      have hn1 : ((nE : Int) != (nE : Int)) = false := by simp
                      have hn2 : ((nK : Int) != (nK : Int)) = false := by simp
                      clear hT hcs hnE hnK hs2 hs3 hs4 hs5
                      go_wp2_with fail
                      refine wp_region_quiet_grown (by assumption) (by kernel_rfl) ?_
                      repeat (first | go_big_quiet_skip | quiet_step (first | (go_at_call 17; refine Calls.grown_of (HLE.out _ _)) | (go_at_call 18; refine Calls.grown_of (HKE.out _ _)) | (go_at_call 19; refine Calls.grown_of (HSE.out _ _))))
                      refine wpQuiet_nil ?_
                      intro _ hw'
                      obtain ⟨⟨nq, osq⟩, hw''⟩ := hw'
                      subst hw''
                      dsimp only
                      have HLW := Lib.hid (HLT.out.grown (Grown.of wt nq osq))
                      clear t1 t2 t3 t4 t5 t6 t7 t8 HLE HKE HSE hsn
                      generalize grow (wt.drewN nq) osq = wz at *
                      go_wp2
                      go_roundw
                      case rel => exact ⟨k + 1, q2, L, y2, by simp, hgo, HLW.out.sub (fun b hb => by simp at hb), HTW.out, HPU.out, HLL.out⟩
                      case measure => simp [intOf]; omega
                    · have hk2n : (kd == 2) = false := beq_eq_false_iff_ne.2 k2
                      clear k2
                      obtain ⟨wt, hwt⟩ : ∃ wt, ws = wt := ⟨_, rfl⟩
                      rw [hwt] at hws b0 b1 b2 b3 c0s HLS
                      have HLT := HLS
                      have HTW := HTW0
                      have HPU : Hid (q.pu ≤ ((k + 1 : Nat) : Int)) := Lib.hid (by have := HPU0.out; omega)
                      have HLL : Hid (L.length ≤ k + 1) := Lib.hid (by have := HLL0.out; omega)
                      have hT := lp_tail HLT.out HTW.out
                      obtain ⟨nE, hnE⟩ : ∃ n, (y).P.length = n := ⟨_, rfl⟩
                      obtain ⟨nK, hnK⟩ : ∃ n, (y).M.length = n := ⟨_, rfl⟩
                      obtain ⟨s2, hs2⟩ : ∃ n, (y).pu = n := ⟨_, rfl⟩
                      obtain ⟨s3, hs3⟩ : ∃ n, (y).po = n := ⟨_, rfl⟩
                      obtain ⟨s4, hs4⟩ : ∃ n, (y).pk = n := ⟨_, rfl⟩
                      obtain ⟨s5, hs5⟩ : ∃ n, (y).re = n := ⟨_, rfl⟩
                      rw [hnE, hnK, hs2, hs3, hs4, hs5] at hT
                      obtain ⟨a, c, a2, c2, hcs⟩ := hT.cells
                      have t1 := fun n os => (hcs n os).1
                      have t2 := fun n os => (hcs n os).2.1
                      have t3 := fun n os => (hcs n os).2.2.1
                      have t4 := fun n os => (hcs n os).2.2.2.1
                      have t5 := fun n os => (hcs n os).2.2.2.2.1
                      have t6 := fun n os => (hcs n os).2.2.2.2.2.1
                      have t7 := fun n os => (hcs n os).2.2.2.2.2.2.1
                      have t8 := fun n os => (hcs n os).2.2.2.2.2.2.2
                      have HLE := Lib.hid hT.len
                      have HKE := Lib.hid hT.known
                      have HSE := Lib.hid hT.stats
                      have hsn := stats_neq_no s2 s3 s4 s5
                      have hn1 : ((nE : Int) != (nE : Int)) = false := by simp
                      have hn2 : ((nK : Int) != (nK : Int)) = false := by simp
                      clear hT hcs hnE hnK hs2 hs3 hs4 hs5
                      go_wp2_with fail
                      refine wp_region_quiet_grown (by assumption) (by kernel_rfl) ?_
                      repeat (first | go_big_quiet_skip | quiet_step (first | (go_at_call 17; refine Calls.grown_of (HLE.out _ _)) | (go_at_call 18; refine Calls.grown_of (HKE.out _ _)) | (go_at_call 19; refine Calls.grown_of (HSE.out _ _))))
                      refine wpQuiet_nil ?_
                      intro _ hw'
                      obtain ⟨⟨nq, osq⟩, hw''⟩ := hw'
                      subst hw''
                      dsimp only
                      have HLW := Lib.hid (HLT.out.grown (Grown.of wt nq osq))
                      clear t1 t2 t3 t4 t5 t6 t7 t8 HLE HKE HSE hsn
                      generalize grow (wt.drewN nq) osq = wz at *
                      go_wp2
                      go_roundw
                      case rel => exact ⟨k + 1, q, L, y, by simp, hgo, HLW.out.sub (fun b hb => by simp at hb), HTW.out, HPU.out, HLL.out⟩
                      case measure => simp [intOf]; omega
      · have hgoI : ¬ (k : Int) < (N : Int) := by omega
        have HBE := Lib.hid hla.bel
        clear hla htw
        go_wp2
        go_ret
        exact ⟨rfl, HBE.out⟩
end Go.Proofs.Ytbnekkcjkdghcaa
