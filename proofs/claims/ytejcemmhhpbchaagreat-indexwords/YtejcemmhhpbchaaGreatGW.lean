/- Texts in one: IxTotW, IxMerP, IxWrP, IxWrW. -/
import Derived.Test.YtejcemmhhpbchaaGreatGE
import Derived.Test.YtejcemmhhpbchaaGreatGJ
import Derived.Test.YtejcemmhhpbchaaGreatGF
/- IndexTotal, walked. -/
namespace Go.Proofs.YtejcemmhhpbchaaGreat
open Go.RowKit Go.Maps

set_option maxRecDepth 100000 in
theorem xmax_run (n : Nat) (ty : TypeId) (w : World) : (Builtin.max_ #[3, 3] ty #[.int .i64 ((n : Int) - 1), .int .i64 0]).run Tryz.prog w = .ok (.int .i64 ((n - 1 : Nat) : Int)) w := by
  rw [run_max_int2]
  congr 2
  split <;> omega
/-- What a law keeps of the index, i merges on. -/
structure ItM (L : Bag) (i : Nat) (M : Mdl) : Prop where
  good : GoodM M (10000 + (i : Int)) (fun _ _ => True)
  first : i = 0 → wtW M.ws = wtW (wsOf L)
  wt : wtW M.ws ≤ wtW (wsOf L)
  len : lenW M.ws ≤ 400
  many : M.ws.length = L.length
  times : M.ws.map (·.2) = L.map (·.2)
  pos : M.pos = lenW M.ws
  tou : 0 ≤ M.tou ∧ M.tou ≤ 100 * (i : Int)
set_option maxRecDepth 100000 in
theorem ItM.keys {L : Bag} {i : Nat} {M : Mdl} (h : ItM L i M) : M.cnt.length ≤ 400 := by
  have h1 := cn_len h.good.cnt h.good.pos h.good.tells
  have := h.len; omega
set_option maxRecDepth 100000 in
theorem ItM.start {L : Bag} {M : Mdl} {had : Int × Int → Int → Prop} (h : GoodM M 256 had) (h1 : M.ws = wsOf L) (h2 : M.pos = (bytesOf L : Int)) (h3 : M.tou = 0) (hb : bytesOf L ≤ 400) : ItM L 0 M := by
  refine ⟨(h.up (s' := 10000) (by decide) (by decide)).weaken fun _ _ _ => trivial, fun _ => by rw [h1], by rw [h1]; exact Int.le_refl _, by rw [h1, ws_bytes]; omega, by rw [h1, ws_len], ?_, by rw [h1, ws_bytes, h2], by rw [h3]; exact ⟨Int.le_refl _, by omega⟩⟩
  rw [h1]; unfold wsOf; rw [List.map_map]; rfl
set_option maxRecDepth 100000 in
theorem ItM.idle {L : Bag} {i : Nat} {M : Mdl} (h : ItM L i M) (hi : i ≤ 100) : ItM L (i + 1) M := by
  refine ⟨h.good.up (by omega) (by omega), fun e => by omega, h.wt, h.len, h.many, h.times, h.pos, h.tou.1, ?_⟩
  have := h.tou.2; omega
set_option maxRecDepth 100000 in
theorem ItM.next {L : Bag} {i : Nat} {M M' : Mdl} {p : Int × Int} {T : Int} {had : Int × Int → Int → Prop} (h : ItM L i M) (hL : L.length ≤ 60) (hw : M'.ws = mergeWs p (10000 + (i : Int)) M.ws) (hg : GoodM M' (10000 + (i : Int) + 1) had) (hp : M'.pos = M.pos - T) (hs : T + lenW M'.ws = lenW M.ws) (ht : M'.tou = M.tou + ((M.pl p).length : Int)) : ItM L (i + 1) M' := by
  have hpl := h.good.plen p
  have hm := h.many
  have hlm := len_merge (p := p) (s := 10000 + (i : Int)) M.ws
  refine ⟨?_, fun e => by omega, ?_, ?_, ?_, ?_, ?_, ?_, ?_⟩
  · have := hg.weaken (had' := fun _ _ => True) fun _ _ _ => trivial
    rw [show 10000 + ((i + 1 : Nat) : Int) = 10000 + (i : Int) + 1 by omega]
    exact this
  · rw [hw]; exact Int.le_trans (wt_merge h.good.pos) h.wt
  · rw [hw]; have := h.len; omega
  · rw [hw]; unfold mergeWs; rw [List.length_map]; exact hm
  · rw [hw]; unfold mergeWs; rw [List.map_map]; exact h.times
  · rw [hp, h.pos]; omega
  · rw [ht]; have := h.tou.1; omega
  · rw [ht]; have := h.tou.2; omega
set_option maxRecDepth 100000 in
theorem ItM.word {L : Bag} {i : Nat} {M : Mdl} (h : ItM L i M) {k : Nat} (hk : k < L.length) : ∃ X, M.ws[k]? = some (X, L[k].2) := by
  have hk2 : k < M.ws.length := by rw [h.many]; exact hk
  obtain ⟨X, t, e⟩ : ∃ X t, M.ws[k]? = some (X, t) := ⟨_, _, List.getElem?_eq_getElem hk2⟩
  have h1 := congrArg (fun l => l[k]?) h.times
  simp only [List.getElem?_map, e, List.getElem?_eq_getElem hk, Option.map_some, Option.some.injEq] at h1
  exact ⟨X, by rw [e, h1]⟩
set_option maxRecDepth 100000 in
theorem wt_step {ws : List Wd} {k : Nat} {X : List Int} {t : Int} (h : ws[k]? = some (X, t)) : wtW (ws.take (k + 1)) = wtW (ws.take k) + t * ((X.length - 1 : Nat) : Int) := by
  obtain ⟨hk, e⟩ := List.getElem?_eq_some_iff.1 h
  rw [List.take_succ_eq_append_getElem hk, e]
  unfold wtW
  rw [sumW_app]; simp [sumW]
set_option maxRecDepth 100000 in
theorem sumF_nonneg {f : Int × Int → Int} (h : ∀ q, 0 ≤ f q) : ∀ Q : List (Int × Int), 0 ≤ sumF f Q
  | [] => Int.le_refl _
  | q :: r => by have h1 := h q; have h2 := sumF_nonneg h r; rw [sumF]; omega
set_option maxRecDepth 100000 in
theorem sumF_take {f : Int × Int → Int} (h : ∀ q, 0 ≤ f q) (Q : List (Int × Int)) (k : Nat) : sumF f (Q.take k) ≤ sumF f Q := by
  have e : sumF f (Q.take k) + sumF f (Q.drop k) = sumF f Q := by rw [← sumF_app, List.take_append_drop]
  have := sumF_nonneg h (Q.drop k)
  omega
set_option maxRecDepth 100000 in
theorem sumF_step {f : Int × Int → Int} {Q : List (Int × Int)} {k : Nat} (hk : k < Q.length) : sumF f (Q.take (k + 1)) = sumF f (Q.take k) + f Q[k] := by
  rw [List.take_succ_eq_append_getElem hk, sumF_app]; simp [sumF]
set_option maxRecDepth 100000 in
/-- All counts, of all pairs that are told, are the weight. -/
theorem sum_all {M : Mdl} {s : Int} {had : Int × Int → Int → Prop} (h : GoodM M s had) : sumF (getC M.cnt) (keysC M.cnt) = wtW M.ws := by
  have e : getC M.cnt = totW M.ws := funext h.tells
  have h1 := sum_tot (keys_nodup h.cnt.ris) (ws := M.ws) fun q hq => (keys_adj h.cnt h.pos h.tells).2 hq
  rw [e, h1]
def TotRel (L : Bag) (w : World) (K : Nat) (n : Nat) (iv : Value) (wr : World) : Prop :=
  ∃ (i : Nat) (lab : Nat → Lab) (V : Int × Int → Value) (M : Mdl), iv = .int .i64 (i : Int) ∧ i ≤ n + 1 ∧ XO w lab K (200000 + 300000 * i) V M wr ∧ ItM L i M
def TotSum (w3 : World) (C : Cn) (sv kv : Value) (wr : World) : Prop := ∃ k : Nat, kv = .int .i64 (k : Int) ∧ k ≤ (keysC C).length ∧ sv = .int .i64 (sumF (getC C) ((keysC C).take k)) ∧ Below w3.heap.size w3 wr
def TotWant (w4 : World) (ws : List Wd) (sv kv : Value) (wr : World) : Prop := ∃ k : Nat, kv = .int .i64 (k : Int) ∧ k ≤ ws.length ∧ sv = .int .i64 (wtW (ws.take k)) ∧ Below w4.heap.size w4 wr
end Go.Proofs.YtejcemmhhpbchaaGreat
/- The index and the document's, side by side. -/
namespace Go.Proofs.YtejcemmhhpbchaaGreat
open Go.RowKit Go.Maps

set_option maxRecDepth 100000 in
set_option maxHeartbeats 1000000 in
theorem xsyms_out (K N : Nat) (lab : Nat → Lab) (V : Int × Int → Value) (M : Mdl) (z : Int) (w : World) (h : IxM w lab K N V M) (hz : z < 0 ∨ (M.ws.length : Int) ≤ z) : Calls Tryz.prog 19 #[.pointer (some ⟨K, 0, none⟩), .int .i64 z] w fun e w' => e = .returned (.slice none 0 0) ∧ w' = w := by
  have hrow : ∃ a c, w.cell? ⟨K, 0, none⟩ = some (.slice a M.ws.length c) := by
    obtain ⟨wv, Kc, mc, b, E, h⟩ := h
    have h1 := h.cells.1
    obtain ⟨a, c, rfl, _⟩ := h.row.form
    exact ⟨a, c, by rw [h1, h.len]⟩
  obtain ⟨a, c, c0⟩ := hrow
  obtain ⟨n, hn⟩ : ∃ n, M.ws.length = n := ⟨_, rfl⟩
  rw [hn] at c0 hz
  clear h hn
  by_cases h0 : z < 0
  · have hd : decide (z < 0) = true := decide_eq_true h0
    clear hz
    go_enter Tryz.func19, Tryz.ntmps19
    go_wp2
    go_ret
    exact ⟨rfl, rfl⟩
  · have h1 : (n : Int) ≤ z := hz.resolve_left h0
    have hd : decide (z < 0) = false := decide_eq_false h0
    have hd1 : decide ((n : Int) ≤ z) = true := decide_eq_true h1
    clear hz
    go_enter Tryz.func19, Tryz.ntmps19
    go_wp2
    go_ret
    exact ⟨rfl, rfl⟩
set_option maxRecDepth 100000 in
theorem sane_of {L : Bag} {w wr : World} {lab : Nat → Lab} {K N i : Nat} {V : Int × Int → Value} {M : Mdl} (x : XO w lab K N V M wr) (it : ItM L i M) (hL : L.length ≤ 60) : SaneW M.ws := by
  have hm := it.many
  refine ⟨it.good.pos, it.good.wt, fun y hy z hz => ?_, it.len, fun y hy => ?_, by omega⟩
  · have h1 := it.good.syms y hy z hz
    have h2 := it.good.sb
    omega
  · obtain ⟨j, hj⟩ := List.mem_iff_getElem?.1 hy
    obtain ⟨X, t⟩ := y
    obtain ⟨_, _, _, _, _, _, _, _, _, hq, _⟩ := x.ix.word hj
    exact hq.fewX
structure Twin (L : Bag) (w : World) (K Kr base i : Nat) (lab : Nat → Lab) (V : Int × Int → Value) (M : Mdl) (v u : Value) (E : List Hd) (wr : World) : Prop where
  x : XO w lab K (200000 + 300000 * i) V M wr
  it : ItM L i M
  r : RIx wr base Kr v u E M.ws
  free : RFree lab Kr v u E
  ge : w.heap.size ≤ base
variable {L : Bag} {w w1 w2 w3 : World} {K Kr base i : Nat} {lab lab2 : Nat → Lab} {V V2 : Int × Int → Value} {M M2 : Mdl} {v u v' : Value} {E E' : List Hd}
set_option maxRecDepth 100000 in
theorem Twin.below (h : Twin L w K Kr base i lab V M v u E w1) (hb : Below w1.heap.size w1 w2) : Twin L w K Kr base i lab V M v u E w2 := ⟨h.x.below hb, h.it, h.r.below hb, h.free, h.ge⟩
set_option maxRecDepth 100000 in
theorem Twin.sane (h : Twin L w K Kr base i lab V M v u E w1) (hL : L.length ≤ 60) : SaneW M.ws := sane_of h.x h.it hL
set_option maxRecDepth 100000 in
theorem Twin.next (h : Twin L w K Kr base i lab V M v u E w1) (x2 : XO w lab2 K (200000 + 300000 * (i + 1)) V2 M2 w2) (it : ItM L (i + 1) M2) (hr2 : RIx w2 base Kr v u E M.ws) (hf2 : RFree lab2 Kr v u E) (hr3 : RIx w3 base Kr v' u E' M2.ws) (hk : Kept (fun g => g = Kr) w2 w3) (hnew : ∀ g, RMine Kr v' u E' g → RMine Kr v u E g ∨ w2.heap.size ≤ g) : Twin L w K Kr base (i + 1) lab2 V2 M2 v' u E' w3 := by
  refine ⟨⟨x2.ix.other hk fun g _ hg => ?_, x2.bel.trans (hk.below x2.bel.size fun g hg => ?_), x2.no⟩, it, hr3, fun g hg => (hnew g hg).elim (hf2 g) x2.ix.fresh, h.ge⟩
  · subst hg; exact hf2 _ (.inl rfl)
  · subst hg; exact Nat.le_trans h.ge hr2.ge
set_option maxRecDepth 100000 in
theorem same_told {p : Int × Int} {s : Int} {Y1 Y2 : List (Int × Int)} (hI : ItM L i M) (hI2 : ItM L (i + 1) M2) (hws : M2.ws = mergeWs p s M.ws) (r1 : Y1.Pairwise pb) (r2 : Y2.Pairwise pb) (i1 : ∀ q, q ∈ Y1 ↔ getC M2.cnt q ≠ getC M.cnt q) (i2 : ∀ q, q ∈ Y2 ↔ totW (mergeWs p s M.ws) q ≠ totW M.ws q) : Y2 = Y1 ∧ Y1.length ≤ 1000000 := by
  refine ⟨rising_unique (fun _ _ h => pb_asymm h) (fun q => ?_) r2 r1, ?_⟩
  · rw [i1, i2, hI2.good.tells, hI.good.tells, hws]
  · have hn : Y1.Nodup := r1.imp fun {a b} (hab : pb a b) (e : a = b) => pb_irrefl b (by rw [e] at hab; exact hab)
    have h1 := len_sub (B := keysC M.cnt ++ keysC M2.cnt) hn fun q hq => by
      have h1 := (i1 q).1 hq
      rw [List.mem_append, keys_get hI.good.cnt, keys_get hI2.good.cnt]
      have a1 := (hI.good.cnt.get q).1
      have a2 := (hI2.good.cnt.get q).1
      omega
    rw [List.length_append, keysC_len, keysC_len] at h1
    have := hI.keys; have := hI2.keys
    omega
def TwRel (L : Bag) (w : World) (K Kr base n : Nat) (iv : Value) (wr : World) : Prop :=
  ∃ (i : Nat) (lab : Nat → Lab) (V : Int × Int → Value) (M : Mdl) (v u : Value) (E : List Hd), iv = .int .i64 (i : Int) ∧ i ≤ n ∧ Twin L w K Kr base i lab V M v u E wr
def CkRel (wb : World) (n : Nat) (iv : Value) (wr : World) : Prop := ∃ k : Nat, iv = .int .i64 (k : Int) ∧ k ≤ n ∧ Below wb.heap.size wb wr
end Go.Proofs.YtejcemmhhpbchaaGreat
/- IndexWords: what the law keeps. -/
namespace Go.Proofs.YtejcemmhhpbchaaGreat
open Go.RowKit Go.Maps

def boolE : Elt Bool where
  ty := 4
  sl := 53
  n := 1
  bytes := 1
  zero := .bool false
  enc := fun t => [.bool t]
  under := Tryz.underlying53
  info := by kernel_rfl
  pos := by decide
  small := by decide
  zlen := by kernel_rfl
  len := fun _ => rfl
  one := fun x u hu => by
    simp only [List.mem_cons, List.not_mem_nil, or_false] at hu
    rcases hu with rfl; rfl
set_option maxRecDepth 100000 in
theorem rowB_cell {w : World} {g j : Nat} {L : List Bool} (h : rowE boolE w g L) (hj : j < L.length) : w.cell? ⟨g, j, none⟩ = some (.bool L[j]) ∧ w.frozen? ⟨g, j, none⟩ = false := by
  have := h.cells (i := 0) hj (by decide)
  rwa [show j * boolE.n + 0 = j by show j * 1 + 0 = j; omega] at this
set_option maxRecDepth 100000 in
theorem rowB_store {w : World} {g j : Nat} {L : List Bool} (h : rowE boolE w g L) (hj : j < L.length) (y : Bool) : rowE boolE (w.setCell ⟨g, j, none⟩ (.bool y)) g (L.set j y) := by
  have := h.store (i := 0) (u := .bool y) y hj (by decide) rfl
  rwa [show j * boolE.n + 0 = j by show j * 1 + 0 = j; omega] at this
structure Trio (L : Bag) (w : World) (K Kr base g i : Nat) (lab : Nat → Lab) (V : Int × Int → Value) (M : Mdl) (v u : Value) (E : List Hd) (H : List Bool) (wr : World) : Prop where
  tw : Twin L w K Kr base i lab V M v u E wr
  row : rowE boolE wr g H
  hl : H.length = L.length
  no : lab g = .no
  ap : ¬ RMine Kr v u E g
  ge : w.heap.size ≤ g
variable {L : Bag} {w w1 w2 w3 : World} {K Kr base g i : Nat} {lab lab2 : Nat → Lab} {V V2 : Int × Int → Value} {M M2 : Mdl} {v u v' : Value} {E E' : List Hd} {H : List Bool}
set_option maxRecDepth 100000 in
theorem Trio.below (h : Trio L w K Kr base g i lab V M v u E H w1) (hb : Below w1.heap.size w1 w2) : Trio L w K Kr base g i lab V M v u E H w2 := ⟨h.tw.below hb, h.row.kept (hb.block g h.row.lt), h.hl, h.no, h.ap, h.ge⟩
set_option maxRecDepth 100000 in
theorem Trio.store (h : Trio L w K Kr base g i lab V M v u E H w1) {k : Nat} (hk : k < L.length) (b : Bool) : Trio L w K Kr base g i lab V M v u E (H.set k b) (w1.setCell ⟨g, k, none⟩ (.bool b)) := by
  have hK : Kept (fun j => j = g) w1 (w1.setCell ⟨g, k, none⟩ (.bool b)) := (Kept.refl _ w1).setCell _ _ fun _ => rfl
  refine ⟨⟨⟨h.tw.x.ix.other hK fun j _ e => by subst e; exact h.no, h.tw.x.bel.trans (hK.below h.tw.x.bel.size fun j e => by subst e; exact h.ge), h.tw.x.no⟩, h.tw.it, h.tw.r.kept fun j hj hm => hK.block j hj fun e => h.ap (by rw [← e]; exact hm), h.tw.free, h.tw.ge⟩, rowB_store h.row (by rw [h.hl]; exact hk) b, by rw [List.length_set]; exact h.hl, h.no, h.ap, h.ge⟩
set_option maxRecDepth 100000 in
theorem Trio.next (h : Trio L w K Kr base g i lab V M v u E H w1) (hx : XRet lab w1 lab2 w2) (x2 : XO w lab2 K (200000 + 300000 * (i + 1)) V2 M2 w2) (it : ItM L (i + 1) M2) (hr3 : RIx w3 base Kr v' u E' M2.ws) (hk : Kept (fun j => j = Kr) w2 w3) (hnew : ∀ j, RMine Kr v' u E' j → RMine Kr v u E j ∨ w2.heap.size ≤ j) : Trio L w K Kr base g (i + 1) lab2 V2 M2 v' u E' H w3 := by
  obtain ⟨hr2, hf2⟩ := h.tw.r.step h.tw.free hx
  obtain ⟨n2, b2⟩ := hx.out h.row.lt h.no
  have r2 := h.row.kept b2
  refine ⟨h.tw.next x2 it hr2 hf2 hr3 hk hnew, r2.kept (hk.block g r2.lt fun e => h.ap (.inl e)), h.hl, n2, fun hm => ?_, h.ge⟩
  rcases hnew g hm with e | e
  · exact h.ap e
  · have := r2.lt; omega
set_option maxRecDepth 100000 in
theorem Trio.idle (h : Trio L w K Kr base g i lab V M v u E H w1) (hi : i ≤ 100) : Trio L w K Kr base g (i + 1) lab V M v u E H w1 := ⟨⟨⟨h.tw.x.ix.mono (by omega), h.tw.x.bel, h.tw.x.no⟩, h.tw.it.idle hi, h.tw.r, h.tw.free, h.tw.ge⟩, h.row, h.hl, h.no, h.ap, h.ge⟩
/-- Who had the pair, by the law's own row; who has any, or had it. -/
def hadH (p : Int × Int) (H : List Bool) (q : Int × Int) (z : Int) : Prop := q = p → ∃ k : Nat, z = (k : Int) ∧ H[k]? = some true
def NowHad (p : Int × Int) (H : List Bool) (ws : List Wd) (q : Int × Int) (z : Int) : Prop := hadH p H q z ∨ hasW ws q z
set_option maxRecDepth 100000 in
theorem set_true {H : List Bool} {k j : Nat} {b : Bool} (h : H[j]? = some true) (hb : H[k]? = some true → b = true) : (H.set k b)[j]? = some true := by
  rw [List.getElem?_set]
  split
  · rename_i e
    subst e
    rw [if_pos (List.getElem?_eq_some_iff.1 h).1, hb h]
  · exact h
def HdRel (L : Bag) (w : World) (p : Int × Int) (K Kr base g i : Nat) (lab : Nat → Lab) (V : Int × Int → Value) (M : Mdl) (v u : Value) (E : List Hd) (H0 : List Bool) (kv : Value) (wr : World) : Prop :=
  ∃ (k : Nat) (H : List Bool), kv = .int .i64 (k : Int) ∧ k ≤ L.length ∧ Trio L w K Kr base g i lab V M v u E H wr ∧ (∀ j : Nat, H0[j]? = some true → H[j]? = some true) ∧ ∀ (j : Nat) X t, j < k → M.ws[j]? = some (X, t) → 0 < cntP X p → H[j]? = some true
set_option maxRecDepth 100000 in
theorem hd_step {p : Int × Int} {H0 : List Bool} {k : Nat} {X : List Int} {t : Int} {b : Bool} (h : Trio L w K Kr base g i lab V M v u E H w1) (ho : ∀ j : Nat, H0[j]? = some true → H[j]? = some true) (hn : ∀ (j : Nat) X t, j < k → M.ws[j]? = some (X, t) → 0 < cntP X p → H[j]? = some true) (hk : k < L.length) (hX : M.ws[k]? = some (X, t)) (hb : H[k]? = some true → b = true) (hc : 0 < cntP X p → b = true) :
    HdRel L w p K Kr base g i lab V M v u E H0 (.int .i64 ((k : Int) + 1)) (w1.setCell ⟨g, k, none⟩ (.bool b)) := by
  refine ⟨k + 1, H.set k b, by simp, hk, h.store hk b, fun j hj => set_true (ho j hj) hb, fun j X2 t2 hj hw hq => ?_⟩
  by_cases e : j = k
  · subst e
    rw [hX] at hw
    cases hw
    rw [List.getElem?_set_self (by rw [h.hl]; exact hk), hc hq]
  · exact set_true (hn j X2 t2 (by omega) hw hq) hb
set_option maxRecDepth 100000 in
theorem had_all {p : Int × Int} {s : Int} {H0 H1 : List Bool} (hg : GoodM M s (NowHad p H0 M.ws)) (ho : ∀ j : Nat, H0[j]? = some true → H1[j]? = some true) (hn : ∀ (j : Nat) X t, M.ws[j]? = some (X, t) → 0 < cntP X p → H1[j]? = some true) : GoodM M s (hadH p H1) :=
  hg.weaken fun q z h e => by
    rcases h with h | ⟨j, X, t, e2, hj, hc⟩
    · obtain ⟨k, e2, hk⟩ := h e; exact ⟨k, e2, ho k hk⟩
    · subst e; exact ⟨j, e2, hn j X t hj hc⟩
def WdRel (L : Bag) (w : World) (p : Int × Int) (K Kr base g n : Nat) (tv iv : Value) (wr : World) : Prop :=
  ∃ (i : Nat) (lab : Nat → Lab) (V : Int × Int → Value) (M : Mdl) (v u : Value) (E : List Hd) (H : List Bool), iv = .int .i64 (i : Int) ∧ i ≤ n + 1 ∧ tv = .int .i64 M.tou ∧ Trio L w K Kr base g i lab V M v u E H wr ∧ GoodM M (10000 + (i : Int)) (NowHad p H M.ws)
/-- All words ahead of place k are less than x. -/
def Ahead (W : List Int) (k : Nat) (x : Int) : Prop := ∀ (i : Nat) z, i < k → W[i]? = some z → z < x
def ScRel (wb : World) (W : List Int) (m : Nat) (kv xv : Value) (wr : World) : Prop := ∃ k x : Nat, kv = .int .i64 (k : Int) ∧ xv = .int .i64 (x : Int) ∧ k ≤ W.length ∧ x ≤ m ∧ Ahead W k (x : Int) ∧ Below wb.heap.size wb wr
def SkRel (wb : World) (W : List Int) (x : Nat) (kv : Value) (wr : World) : Prop := ∃ k : Nat, kv = .int .i64 (k : Int) ∧ k ≤ W.length ∧ Ahead W k (x : Int) ∧ Below wb.heap.size wb wr
set_option maxRecDepth 100000 in
theorem Ahead.step {W : List Int} {k : Nat} {x z : Int} (h : Ahead W k x) (hz : W[k]? = some z) (hx : z < x) : Ahead W (k + 1) x := fun i y hi hy => by
  by_cases e : i = k
  · subst e; rw [hz] at hy; cases hy; exact hx
  · exact h i y (by omega) hy
set_option maxRecDepth 100000 in
theorem Ahead.up {W : List Int} {k : Nat} {x y : Int} (h : Ahead W k x) (hy : x ≤ y) : Ahead W k y := fun i z hi hz => Int.lt_of_lt_of_le (h i z hi hz) hy
set_option maxRecDepth 100000 in
theorem Ahead.none {W : List Int} {k : Nat} {x : Int} (h : Ahead W k x) (hk : W.length ≤ k) (hx : x ∈ W) : False := by
  obtain ⟨i, hi⟩ := List.mem_iff_getElem?.1 hx
  have := h i x (by have := (List.getElem?_eq_some_iff.1 hi).1; omega) hi
  omega
set_option maxRecDepth 100000 in
theorem Ahead.hit {W : List Int} {k : Nat} {x z : Int} (h : Ahead W k x) (hr : W.Pairwise (· < ·)) (hz : W[k]? = some z) (hzx : ¬ z < x) (hx : x ∈ W) : z = x := by
  obtain ⟨i, hi⟩ := List.mem_iff_getElem?.1 hx
  obtain ⟨hi1, hi2⟩ := List.getElem?_eq_some_iff.1 hi
  obtain ⟨hk1, hk2⟩ := List.getElem?_eq_some_iff.1 hz
  by_cases e : i < k
  · have := h i x e hi; omega
  · by_cases e2 : i = k
    · subst e2; rw [hi] at hz; cases hz; rfl
    · have := List.pairwise_iff_getElem.1 hr k i hk1 hi1 (by omega)
      omega
end Go.Proofs.YtejcemmhhpbchaaGreat
/- IndexWords, walked. (Its text: wip/tools/gen_ixwr.py.) -/
namespace Go.Proofs.YtejcemmhhpbchaaGreat
open Go.RowKit Go.Maps

set_option maxRecDepth 100000 in
set_option maxHeartbeats 16000000 in
theorem indexWords_walk (v u : Value) (p q : Int) (w0 : World) (L : Bag) (P : List (Int × Int)) (hv : wordsAt w0 v L) (hL : L.length ≤ maxLen) (hf : Fits L) (hu : eltsAt pairE w0 u P) (hPl : P.length ≤ maxLen) (hP : FitsP P) (hpr : FitsPr (p, q)) :
    Calls Tryz.prog 4 #[v, u, .agg #[.int .i64 p, .int .i64 q]] w0 fun e w' => e = .returned (.bool true) ∧ Below w0.heap.size w0 w' := by
  obtain ⟨i0, hi, hz0, hz1, hz2⟩ := info_parts boolE.info
  have hz2' : i0.bytes = 1 := hz2
  have HI0 := Lib.hid hi; have HZ0 := Lib.hid hz0; have HZ1 := Lib.hid hz1; have HZ2 := Lib.hid hz2'
  obtain ⟨bx, hbx⟩ : ∃ bx, w0.heap.size = bx := ⟨_, rfl⟩
  obtain ⟨w, hw⟩ : ∃ w1, w1 = w0.alloc (.cells #[.int .i64 p, .int .i64 q] 37) := ⟨_, rfl⟩
  have B0 : Below w0.heap.size w0 w := by rw [hw]; exact (Below.refl _ w0).alloc (Nat.le_refl _) _
  have hs1 : w.heap.size = bx + 1 := by rw [hw, ← hbx]; simp
  have HBX : Hid (∀ W, Below w.heap.size w W → W.cell? ⟨bx, 0, none⟩ = some (.int .i64 p) ∧ W.cell? ⟨bx, 1, none⟩ = some (.int .i64 q)) := Lib.hid fun W hW => by
    refine ⟨(hW.cell (show bx < w.heap.size by omega)).trans ?_, (hW.cell (show bx < w.heap.size by omega)).trans ?_⟩ <;> (rw [hw, ← hbx]; simp)
  have HB0 := Lib.hid B0
  have HV := Lib.hid (hv.below B0 (Nat.le_refl _)); have HF := Lib.hid hf; have HP := Lib.hid hP; have HU := Lib.hid (hu.below B0 (Nat.le_refl _)); have HPR := Lib.hid hpr
  have hL2 : L.length ≤ 9223372036854775807 := by unfold maxLen at hL; omega
  have HL2 := Lib.hid hL2
  have HA := Lib.hid (xawake_any w)
  obtain ⟨a, cap, rfl, _⟩ := hv
  obtain ⟨b, cap2, rfl, _⟩ := hu
  obtain ⟨n, hn⟩ : ∃ n, P.length = n := ⟨_, rfl⟩
  have HN := Lib.hid hn
  have hnm : n ≤ 9223372036854775807 := by unfold maxLen at hPl; omega
  have hw' := hw.symm
  rw [hn] at HU ⊢
  clear hf hL hL2 hP hPl hn hi hz0 hz1 hz2 hz2' B0 hs1 hw hpr
  go_enter Tryz.func4, Tryz.ntmps4
  go_wp2_with fail
  refine HA.out.mono ?_
  rintro e w2 ⟨rfl, hb2⟩
  have HB2 := Lib.hid hb2
  have cG := xgreat_any _ L w2 (HV.out.below hb2 (Nat.le_refl _)) HL2.out
  clear hb2
  go_wp2_with fail
  refine cG.mono ?_
  rintro e w2' ⟨gr, rfl, rfl, hg⟩
  clear cG
  have HBB2 : Hid (Below w0.heap.size w0 w2') := Lib.hid (HB0.out.trans (HB2.out.mono HB0.out.size))
  cases gr with
  | true =>
    go_wp2
    go_ret
    exact ⟨rfl, HBB2.out⟩
  | false =>
    obtain ⟨hl60, hb400⟩ := hg rfl
    have HL60 := Lib.hid hl60; have HB400 := Lib.hid hb400
    clear hg hl60 hb400
    by_cases h30 : n ≤ 30
    · have h30d : decide ((30 : Int) < (n : Int)) = false := decide_eq_false (by omega)
      have h30I : ¬ (30 : Int) < (n : Int) := by omega
      have cN := xnew_any _ L w2' (HV.out.below HB2.out (Nat.le_refl _)) HF.out (by have := HL60.out; omega) (by have := HB400.out; omega)
      go_wp2_with fail
      refine cN.mono ?_
      rintro e w10 ⟨hb10, ⟨hno, rfl⟩ | ⟨h0, K, lab, V, M, rfl, hM, hG, hws, hpos, htou, hlab⟩⟩
      · have HW10 : Hid (Below w0.heap.size w0 w10) := Lib.hid (HBB2.out.trans (hb10.mono HBB2.out.size))
        obtain ⟨er, her⟩ : ∃ er, (checkOf L).2 = er := ⟨_, rfl⟩
        rw [her] at hno ⊢
        have hne : (er != 0) = true := by simp [hno]
        have hne2 : (er == 0) = false := by simp [hno]
        clear hb10 cN hno her
        go_wp2_with fail
        go_ret
        exact ⟨by first | rfl | simp [hne] | simp [hne2], HW10.out⟩
      · have HO : Hid (XO w lab K 200000 V M w10) := Lib.hid ⟨hM, HB2.out.trans (hb10.mono HB2.out.size), fun i hi => hlab i (by have := HB2.out.size; omega)⟩
        have HIT := Lib.hid (ItM.start hG hws hpos htou HB400.out)
        have HWS := Lib.hid hws; have HTOU := Lib.hid htou; have HG := Lib.hid hG
        have cR := rxnew_any _ L w10 (HV.out.below HO.out.bel (Nat.le_refl _)) (by have := HL60.out; omega) (by have := HB400.out; omega)
        clear hM hG hws hpos htou hlab hb10 cN h0
        go_wp2_with fail
        refine cR.mono ?_
        rintro e w12 ⟨Kr, vr0, ur0, E0, rfl, hR, hb12⟩
        obtain ⟨base, hbase⟩ : ∃ base, w10.heap.size = base := ⟨_, rfl⟩
        have HT0 : Hid (Twin L w K Kr base 0 lab V M vr0 ur0 E0 w12) := Lib.hid (by
          rw [← hbase]
          exact ⟨HO.out.below hb12, HIT.out, by rw [HWS.out]; exact hR, fun i hi => HO.out.ix.fresh (hR.lt hi).1, HO.out.bel.size⟩)
        obtain ⟨m, hm⟩ : ∃ m, L.length = m := ⟨_, rfl⟩
        have HMM := Lib.hid hm
        have hm60 : m ≤ 60 := by have := HL60.out; omega
        rw [hm] at HV ⊢
        clear hm h30d cR hR hb12 hbase
        go_wp2_with (at_make; refine wpList_make_full _ rfl _ _ 53 rfl w12.heap.size 4 i0 boolE.zero 1 Tryz.underlying53 HI0.out HZ0.out HZ1.out .i64 .i64 _ _ m rfl rfl rfl rfl (by rw [HZ2.out]; omega) (by unfold maxLen; omega) (Nat.le_refl _) ?_; intro w13 hown1 hgr1; have HR1 : Hid (rowE boolE w13 w12.heap.size (List.replicate m false)) := Lib.hid (rowE_made boolE false rfl hown1); have HB1 : Hid (Below w12.heap.size w12 w13) := Lib.hid ((Below.refl _ w12).grown hgr1 (Nat.le_refl _) (by simp)); clear hown1 hgr1)
        obtain ⟨g, hg⟩ : ∃ g, w12.heap.size = g := ⟨_, rfl⟩
        have HT1 : Hid (Trio L w K Kr base g 0 lab V M vr0 ur0 E0 (List.replicate m false) w13) := Lib.hid (by
          rw [← hg]
          exact ⟨HT0.out.below HB1.out, HR1.out, by rw [List.length_replicate, HMM.out], HT0.out.x.ix.fresh (Nat.le_refl _), fun hm => by have := (HT0.out.r.lt hm).2; omega, HT0.out.x.bel.size⟩)
        have HG1 : Hid (GoodM M (10000 + ((0 : Nat) : Int)) (NowHad (p, q) (List.replicate m false) M.ws)) := Lib.hid ((HG.out.up (s' := 10000 + ((0 : Nat) : Int)) (by decide) (by decide)).weaken fun _ _ h => .inr (by rw [HWS.out]; exact h))
        rw [hg] at HR1 ⊢
        clear hg
        go_wp2_with fail
        go_loopw [11, 12] (fun tv iv wr => WdRel L w (p, q) K Kr base g n tv iv wr) (fun _ iv _ => n + 2 - (intOf iv).toNat)
        case atStart => exact ⟨0, lab, V, M, vr0, ur0, E0, List.replicate m false, rfl, by omega, by rw [HTOU.out], HT1.out, HG1.out⟩
        case round =>
          obtain ⟨i, lab1, V1, M1, vr, ur, E1, H0, rfl, hi, rfl, hT, hgd⟩ := hrel
          have HT2 := Lib.hid hT; have HG2 := Lib.hid hgd
          clear hT hgd HT1 HG1 HT0
          have HSN1 := Lib.hid (HT2.out.tw.sane HL60.out)
          obtain ⟨T0, hT0⟩ : ∃ T, M1.tou = T := ⟨_, rfl⟩
          have HTO := Lib.hid hT0
          rw [hT0]
          clear hT0
          by_cases hgo : i ≤ n
          · have hiI : (i : Int) ≤ (n : Int) := by omega
            go_wp2_with fail
            go_loopw [13] (fun kv wr => HdRel L w (p, q) K Kr base g i lab1 V1 M1 vr ur E1 H0 kv wr) (fun kv _ => m + 1 - (intOf kv).toNat)
            case atStart => exact ⟨0, H0, rfl, Nat.zero_le _, HT2.out, fun _ h => h, fun j X t hj => by omega⟩
            case round =>
              obtain ⟨wo, hwo⟩ : ∃ wo, wo = wr := ⟨_, rfl⟩
              subst hwo
              obtain ⟨k, H1, rfl, hk, hT, hold, hnew⟩ := hrel
              have HT3 := Lib.hid hT; have HOLD := Lib.hid hold; have HNEW := Lib.hid hnew
              rw [HMM.out] at hk
              clear hold hnew
              by_cases hgk : k < m
              · have hkI : (k : Int) < (m : Int) := by omega
                have hkL : k < L.length := by rw [HMM.out]; exact hgk
                have hkH : k < H1.length := by rw [hT.hl]; exact hkL
                obtain ⟨c0, f0⟩ := rowB_cell hT.row hkH
                obtain ⟨X, hX⟩ := hT.tw.it.word hkL
                obtain ⟨tt, htt⟩ : ∃ tt, L[k].2 = tt := ⟨_, rfl⟩
                rw [htt] at hX
                clear htt
                have HX := Lib.hid hX; have HKL := Lib.hid hkL
                obtain ⟨bv, hbv⟩ : ∃ bv, H1[k] = bv := ⟨_, rfl⟩
                have HBV : Hid (H1[k]? = some bv) := Lib.hid (by rw [List.getElem?_eq_getElem hkH, hbv])
                rw [hbv] at c0
                have cI := Lib.hid (rxin_any base Kr vr ur E1 M1.ws k X tt p q wo hT.tw.r hX (HSN1.out.few _ (List.mem_of_getElem? hX)))
                obtain ⟨d0, d1⟩ := HBX.out wo hT.tw.x.bel
                clear hbv hX hkL hkH hT
                cases bv with
                | true =>
                  go_wp2_with fail
                  go_roundw
                  case rel => exact hd_step HT3.out HOLD.out HNEW.out HKL.out HX.out (fun _ => rfl) (fun _ => rfl)
                  case measure => simp [intOf] <;> omega
                | false =>
                  obtain ⟨d, hd⟩ : ∃ d, decide (0 < cntP X (p, q)) = d := ⟨_, rfl⟩
                  have HD := Lib.hid hd
                  rw [hd] at cI
                  clear hd
                  go_wp2_with fail
                  refine cI.out.mono ?_
                  rintro e w5 ⟨rfl, hb5⟩
                  have HT4 := Lib.hid (HT3.out.below hb5)
                  obtain ⟨_, f5⟩ := rowB_cell HT4.out.row (j := k) (by rw [HT4.out.hl]; exact HKL.out)
                  clear hb5 c0 f0 d0 d1
                  go_wp2_with fail
                  go_roundw
                  case rel => exact hd_step HT4.out HOLD.out HNEW.out HKL.out HX.out (fun h => by rw [HBV.out] at h; cases h) (fun h => by rw [← HD.out]; exact decide_eq_true h)
                  case measure => simp [intOf] <;> omega
              · have hkI : ¬ (k : Int) < (m : Int) := by omega
                obtain rfl : k = m := by omega
                have HG3 : Hid (GoodM M1 (10000 + (i : Int)) (hadH (p, q) H1)) := Lib.hid (had_all HG2.out HOLD.out fun j X t hj hc => HNEW.out j X t (by have := (List.getElem?_eq_some_iff.1 hj).1; have := hT.tw.it.many; have := HMM.out; omega) hj hc)
                have hpl := HG3.out.plen (p, q)
                have hmn := hT.tw.it.many
                rw [hmn, HMM.out] at hpl
                have cW := xwords_any K _ lab1 V1 M1 p q wo hT.tw.x.ix HPR.out (by omega)
                obtain ⟨d0, d1⟩ := HBX.out wo hT.tw.x.bel
                obtain ⟨W, hW⟩ : ∃ W, M1.pl (p, q) = W := ⟨_, rfl⟩
                have HWL := Lib.hid hW
                rw [hW] at cW hpl
                clear hT hW hmn
                go_wp2_with fail
                refine cW.mono ?_
                rintro e w7 ⟨r7, rfl, ho7, hb7⟩
                obtain ⟨ra, rc, rfl, _⟩ := ho7.form
                obtain ⟨l, hl⟩ : ∃ l, W.length = l := ⟨_, rfl⟩
                have HLL := Lib.hid hl
                rw [hl] at ho7 hpl ⊢
                have HT7 := Lib.hid (HT3.out.below hb7)
                have HO7 := Lib.hid ho7.reads
                clear hb7 ho7 cW hl d0 d1
                go_wp2_with fail
                go_loopw [16] (fun kv wr => CkRel w7 l kv wr) (fun kv _ => l + 1 - (intOf kv).toNat)
                case atStart => exact ⟨0, rfl, Nat.zero_le _, Below.refl _ _⟩
                case round =>
                  obtain ⟨wp, hwp⟩ : ∃ wp, wp = wr := ⟨_, rfl⟩
                  subst hwp
                  obtain ⟨j, rfl, hj, hbj⟩ := hrel
                  have HBJ := Lib.hid hbj
                  clear hbj
                  by_cases hgj : j < l
                  · have hjI : (j : Int) < (l : Int) := by omega
                    have hjW : j < W.length := by rw [HLL.out]; exact hgj
                    obtain ⟨ad, rfl, hq0⟩ := int_at HO7.out hjW
                    have HR := Lib.hid (HO7.out.below HBJ.out (Nat.le_refl _))
                    obtain ⟨_, e3, x0⟩ := int_at HR.out hjW
                    cases e3
                    have hmem : W[j] ∈ M1.pl (p, q) := by rw [HWL.out]; exact List.getElem_mem hjW
                    obtain ⟨zn, hzn, hHz⟩ := HG3.out.was (p, q) _ hmem rfl
                    have hRise := HG3.out.rise (p, q)
                    rw [HWL.out] at hRise
                    have HRISE := Lib.hid hRise
                    have HTJ := Lib.hid (HT7.out.below HBJ.out)
                    obtain ⟨hz1, hz2⟩ := List.getElem?_eq_some_iff.1 hHz
                    obtain ⟨y0, _⟩ := rowB_cell HTJ.out.row hz1
                    rw [hz2] at y0
                    have hzm : zn < k := by rw [HTJ.out.hl, HMM.out] at hz1; exact hz1
                    have HZN := Lib.hid hzn
                    rw [hzn] at x0
                    have n0 : ¬ (zn : Int) < 0 := by omega
                    have n0d : decide ((zn : Int) < 0) = false := decide_eq_false n0
                    have n1 : (zn : Int) < (k : Int) := by omega
                    have n1d : decide ((k : Int) ≤ (zn : Int)) = false := decide_eq_false (by omega)
                    have n2 : ¬ (k : Int) ≤ (zn : Int) := by omega
                    clear hq0 hmem hzn hHz hRise hz1 hz2
                    by_cases hj0 : 0 < j
                    · have hd : decide (0 < j) = true := decide_eq_true hj0
                      have hdI : (0 : Int) < (j : Int) := by omega
                      obtain ⟨j1, hj1⟩ : ∃ j1, j1 + 1 = j := ⟨j - 1, by omega⟩
                      have hjJ : (j : Int) - 1 = (j1 : Int) := by omega
                      have hwj : IntKind.i64.wrap (j1 : Int) = (j1 : Int) := IntWalk.i64_in _ (by omega)
                      have hj1l : (j1 : Int) < (l : Int) := by omega
                      have hj1W : j1 < W.length := by omega
                      obtain ⟨_, e4, x1⟩ := int_at HR.out hj1W
                      cases e4
                      have hlt := List.pairwise_iff_getElem.1 HRISE.out j1 j hj1W hjW (by omega)
                      rw [HZN.out] at hlt
                      obtain ⟨y, hy⟩ : ∃ y, W[j1] = y := ⟨_, rfl⟩
                      rw [hy] at hlt x1
                      have n3 : ¬ (zn : Int) ≤ y := by omega
                      have n3d : decide ((zn : Int) ≤ y) = false := decide_eq_false n3
                      have HJ1 := Lib.hid hj1
                      clear hy hlt HZN
                      clear hj1W hjW hj1 hj0
                      go_wp2_with fail
                      refine wp_region_quiet_lit (by kernel_rfl) (by kernel_rfl) ?_
                      repeat (first | go_big_quiet_skip | quiet_step (fail))
                      refine wpQuiet_nil ?_
                      intro _ hwq
                      obtain ⟨nq, hwq2⟩ := hwq
                      subst hwq2
                      obtain ⟨wD, hwD⟩ : ∃ wD, wp.drewN nq = wD := ⟨_, rfl⟩
                      have HBD : Hid (Below w7.heap.size w7 wD) := Lib.hid (by rw [← hwD]; exact below_drewN' HBJ.out _)
                      rw [hwD]
                      clear hwD
                      go_wp2_with fail
                      go_roundw
                      case rel => exact ⟨j + 1, by simp, by omega, HBD.out⟩
                      case measure => simp [intOf] <;> omega
                    · have hd : decide (0 < j) = false := decide_eq_false hj0
                      have hdI : ¬ (0 : Int) < (j : Int) := by omega
                      clear HZN
                      clear hjW
                      go_wp2_with fail
                      refine wp_region_quiet_lit (by kernel_rfl) (by kernel_rfl) ?_
                      repeat (first | go_big_quiet_skip | quiet_step (fail))
                      refine wpQuiet_nil ?_
                      intro _ hwq
                      obtain ⟨nq, hwq2⟩ := hwq
                      subst hwq2
                      obtain ⟨wD, hwD⟩ : ∃ wD, wp.drewN nq = wD := ⟨_, rfl⟩
                      have HBD : Hid (Below w7.heap.size w7 wD) := Lib.hid (by rw [← hwD]; exact below_drewN' HBJ.out _)
                      rw [hwD]
                      clear hwD
                      go_wp2_with fail
                      go_roundw
                      case rel => exact ⟨j + 1, by simp, by omega, HBD.out⟩
                      case measure => simp [intOf] <;> omega
                  · have hjI : ¬ (j : Int) < (l : Int) := by omega
                    clear hgj
                    go_wp2_with fail
                    go_loopw [15, 17] (fun kv xv wr => ScRel w7 W k kv xv wr) (fun _ xv _ => k + 1 - (intOf xv).toNat)
                    case atStart => exact ⟨0, 0, rfl, rfl, Nat.zero_le _, Nat.zero_le _, fun i z h => by omega, HBJ.out⟩
                    case round =>
                      obtain ⟨wq, hwq⟩ : ∃ wq, wq = wr := ⟨_, rfl⟩
                      subst hwq
                      obtain ⟨c, x, rfl, rfl, hc, hx, hA, hbq⟩ := hrel
                      have HAH := Lib.hid hA; have HBQ := Lib.hid hbq
                      rw [HLL.out] at hc
                      have HCC := Lib.hid hc
                      clear hA hbq
                      by_cases hgx : x < k
                      · have hxI : (x : Int) < (k : Int) := by omega
                        have hxL : x < L.length := by rw [HMM.out]; exact hgx
                        go_wp2_with fail
                        go_loopw [15] (fun kv wr => SkRel w7 W x kv wr) (fun kv _ => l + 1 - (intOf kv).toNat)
                        case atStart => exact ⟨c, rfl, by rw [HLL.out]; exact HCC.out, HAH.out, HBQ.out⟩
                        case round =>
                          obtain ⟨ws, hws⟩ : ∃ ws, ws = wr := ⟨_, rfl⟩
                          subst hws
                          obtain ⟨c2, rfl, hc2, hA2, hbs⟩ := hrel
                          have HA2 := Lib.hid hA2; have HBS := Lib.hid hbs
                          rw [HLL.out] at hc2
                          clear hA2 hbs
                          obtain ⟨X, hX⟩ := HT7.out.tw.it.word hxL
                          obtain ⟨tt, htt⟩ : ∃ tt, L[x].2 = tt := ⟨_, rfl⟩
                          rw [htt] at hX
                          have HTS := Lib.hid (HT7.out.below HBS.out)
                          have cI := Lib.hid (rxin_any base Kr vr ur E1 M1.ws x X tt p q ws HTS.out.tw.r hX (HSN1.out.few _ (List.mem_of_getElem? hX)))
                          have HAS : Hid (0 < cntP X (p, q) → (x : Int) ∈ W) := Lib.hid fun h => by rw [← HWL.out]; exact HG3.out.has (p, q) x X tt hX h
                          obtain ⟨d0, d1⟩ := HBX.out ws HTS.out.tw.x.bel
                          clear htt hX
                          by_cases hg2 : c2 < l
                          · have h2I : (c2 : Int) < (l : Int) := by omega
                            have h2W : c2 < W.length := by rw [HLL.out]; exact hg2
                            have HR : Hid (∀ wZ, Below w7.heap.size w7 wZ → eltsAt intE wZ (.slice ra l rc) W) := Lib.hid fun wZ hZ => HO7.out.below hZ (Nat.le_refl _)
                            obtain ⟨ad, rfl, _⟩ := int_at HO7.out h2W
                            obtain ⟨z, hz⟩ : ∃ z, W[c2] = z := ⟨_, rfl⟩
                            have HZ : Hid (W[c2]? = some z) := Lib.hid (by rw [List.getElem?_eq_getElem h2W, hz])
                            have HXC : Hid (∀ wZ, Below w7.heap.size w7 wZ → wZ.cell? (ad.add c2) = some (.int .i64 z)) := Lib.hid fun wZ hZ => by
                              obtain ⟨_, e3, x0⟩ := int_at (HR.out wZ hZ) h2W
                              cases e3
                              rw [x0, hz]
                            have x0 := HXC.out ws HBS.out
                            have hRise := HG3.out.rise (p, q)
                            rw [HWL.out] at hRise
                            have HRISE := Lib.hid hRise
                            clear hz hRise
                            by_cases hzx : z < (x : Int)
                            · have HZX := Lib.hid hzx
                              go_wp2_with fail
                              go_roundw
                              case rel => exact ⟨c2 + 1, by simp, by rw [HLL.out]; omega, HA2.out.step HZ.out HZX.out, HBS.out⟩
                              case measure => simp [intOf] <;> omega
                            · have HHIT : Hid (0 < cntP X (p, q) → z = (x : Int)) := Lib.hid fun h => HA2.out.hit HRISE.out HZ.out hzx (HAS.out h)
                              obtain ⟨d, hd⟩ : ∃ d, decide (0 < cntP X (p, q)) = d := ⟨_, rfl⟩
                              rw [hd] at cI
                              cases d with
                              | true =>
                                obtain rfl := HHIT.out (of_decide_eq_true hd)
                                have hxx : ((x : Int) != (x : Int)) = false := by simp
                                have hlc : decide ((l : Int) ≤ (c2 : Int)) = false := decide_eq_false (by omega)
                                clear hd
                                go_wp2_with fail
                                refine cI.out.mono ?_
                                rintro e w8 ⟨rfl, hb8⟩
                                have HB8 := Lib.hid (HBS.out.trans (hb8.mono HBS.out.size))
                                have x8 := HXC.out w8 HB8.out
                                clear hb8 x0
                                go_wp2_with fail
                                go_roundw
                                case rel => exact ⟨c2, x + 1, rfl, by simp, by rw [HLL.out]; omega, by omega, HA2.out.up (by omega), HB8.out⟩
                                case measure => simp [intOf] <;> omega
                              | false =>
                                clear hd
                                go_wp2_with fail
                                refine cI.out.mono ?_
                                rintro e w8 ⟨rfl, hb8⟩
                                have HB8 := Lib.hid (HBS.out.trans (hb8.mono HBS.out.size))
                                have x8 := HXC.out w8 HB8.out
                                clear hb8 x0
                                go_wp2_with fail
                                go_roundw
                                case rel => exact ⟨c2, x + 1, rfl, by simp, by rw [HLL.out]; omega, by omega, HA2.out.up (by omega), HB8.out⟩
                                case measure => simp [intOf] <;> omega
                          · have h2I : ¬ (c2 : Int) < (l : Int) := by omega
                            have hd : decide (0 < cntP X (p, q)) = false := decide_eq_false fun h => HA2.out.none (by rw [HLL.out]; omega) (HAS.out h)
                            rw [hd] at cI
                            clear hd
                            go_wp2_with fail
                            refine cI.out.mono ?_
                            rintro e w8 ⟨rfl, hb8⟩
                            have HB8 := Lib.hid (HBS.out.trans (hb8.mono HBS.out.size))
                            clear hb8
                            go_wp2_with fail
                            go_roundw
                            case rel => exact ⟨c2, x + 1, rfl, by simp, by rw [HLL.out]; omega, by omega, HA2.out.up (by omega), HB8.out⟩
                            case measure => simp [intOf] <;> omega
                      · have hxI : ¬ (x : Int) < (k : Int) := by omega
                        have HTQ := Lib.hid (HT7.out.below HBQ.out)
                        by_cases hin : i < n
                        · have hinI : (i : Int) < (n : Int) := by omega
                          have hiL : i < P.length := by rw [HN.out]; exact hin
                          obtain ⟨ap, rfl⟩ := pair_some HU.out hiL
                          obtain ⟨e0, e1⟩ := pairs_at HU.out HTQ.out.tw.x.bel hiL
                          obtain ⟨⟨z0, z1⟩, hz⟩ : ∃ z, P[i] = z := ⟨_, rfl⟩
                          have HPA : Hid (∀ W, Below w.heap.size w W → W.cell? (ap.add (i * 2)) = some (.int .i64 z0) ∧ W.cell? ⟨(ap.add (i * 2)).block, (ap.add (i * 2)).off + 1, none⟩ = some (.int .i64 z1)) := Lib.hid fun W hW => by
                            obtain ⟨e0, e1⟩ := pairs_at HU.out hW hiL
                            rw [hz] at e0 e1
                            exact ⟨e0, e1⟩
                          rw [hz] at e0 e1
                          simp only at e0 e1
                          have hfz : FitsPr (z0, z1) := by rw [← hz]; exact HP.out _ (List.getElem_mem hiL)
                          have HFZ := Lib.hid hfz
                          have hwr : IntKind.i64.wrap (10000 + (i : Int)) = 10000 + (i : Int) := IntWalk.i64_in _ (by omega)
                          have hpl1 := HTQ.out.tw.it.good.plen (z0, z1)
                          have hmn := HTQ.out.tw.it.many
                          rw [hmn, HMM.out] at hpl1
                          have cW := xwords_any K _ lab1 V1 M1 z0 z1 wq HTQ.out.tw.x.ix hfz (by omega)
                          obtain ⟨lw, hlw⟩ : ∃ lw, (M1.pl (z0, z1)).length = lw := ⟨_, rfl⟩
                          have HLW := Lib.hid hlw
                          have ht := HTQ.out.tw.it.tou
                          rw [HTO.out] at ht
                          have hwT : IntKind.i64.wrap (T0 + (lw : Int)) = T0 + (lw : Int) := IntWalk.i64_in _ (by omega)
                          clear hz hfz hiL hmn
                          go_wp2_with fail
                          refine cW.mono ?_
                          rintro e w9 ⟨r9, rfl, ho9, hb9⟩
                          obtain ⟨r1, r2, rfl, _⟩ := ho9.form
                          rw [hlw]
                          have HT9 := Lib.hid (HTQ.out.below hb9)
                          obtain ⟨f0, f1⟩ := HPA.out w9 HT9.out.tw.x.bel
                          have HCM := Lib.hid (xmerge_any K _ lab1 V1 M1 z0 z1 (10000 + (i : Int)) _ w9 HT9.out.tw.x.ix HG3.out HFZ.out (by omega) (by have := HT9.out.tw.it.len; omega) (by rw [HT9.out.tw.it.many, HMM.out]; omega) (by rw [HT9.out.tw.it.pos]; have := HT9.out.tw.it.len; have := lenW_nonneg M1.ws; omega) (by have := HT9.out.tw.it.tou; omega) (by omega) (by have := HT9.out.tw.it.keys; omega))
                          clear cW ho9 hb9 hlw e0 e1 ht
                          go_wp2_with fail
                          refine HCM.out.mono ?_
                          rintro e wa ⟨T, r7, Y, lab7, V7, M7, rfl, _, _, _, _, hM7, hx7, hws7, hG7, hp7, hsum7, ht7⟩
                          have hpl := HT9.out.tw.it.good.plen (z0, z1)
                          have HI7 := Lib.hid (HT9.out.tw.it.next (by rw [HMM.out]; exact hm60) hws7 hG7 hp7 hsum7 ht7)
                          have HO7a := Lib.hid (HT9.out.tw.x.step (hM7.mono (N' := 200000 + 300000 * (i + 1)) (by have := HT9.out.tw.it.many; have := HMM.out; omega)) hx7)
                          have hr7 := (HT9.out.tw.r.step HT9.out.tw.free hx7).1
                          have HX7 := Lib.hid hx7; have HWS7 := Lib.hid hws7
                          have HG7 : Hid (GoodM M7 (10000 + (i : Int) + 1) (NowHad (p, q) H1 M7.ws)) := Lib.hid (by
                            rw [hws7]
                            exact hG7.weaken fun _ _ h => h)
                          have HT7a : Hid (M7.tou = T0 + (lw : Int)) := Lib.hid (by rw [ht7, HTO.out, HLW.out])
                          have cM := rxmerge_any base Kr vr ur E1 M1.ws z0 z1 (10000 + (i : Int)) wa hr7 HSN1.out (by rw [← hws7]; exact sane_of HO7a.out HI7.out HL60.out) (by have := (hr7.lt (.inl rfl)); omega)
                          obtain ⟨g0, g1⟩ := HPA.out wa HO7a.out.bel
                          clear hM7 hx7 hws7 hG7 hp7 hsum7 ht7 hpl hr7 f0 f1
                          go_wp2_with fail
                          refine cM.mono ?_
                          rintro e w8 ⟨T8, r8, Y8, v8, E8, rfl, _, _, _, _, hr8, hk8, hnew8⟩
                          have HT8 : Hid (Trio L w K Kr base g (i + 1) lab7 V7 M7 v8 ur E8 H1 w8) := Lib.hid (HT9.out.next HX7.out HO7a.out HI7.out (by rw [HWS7.out]; exact hr8) hk8 hnew8)
                          have cT := xtou_any K _ lab7 V7 M7 w8 HT8.out.tw.x.ix
                          rw [HT7a.out] at cT
                          clear cM hr8 hk8 hnew8 g0 g1
                          go_wp2_with fail
                          refine cT.mono ?_
                          rintro e wb ⟨rfl, rfl⟩
                          clear cT
                          go_wp2_with fail
                          go_roundw
                          case rel => exact ⟨i + 1, lab7, V7, M7, v8, ur, E8, H1, by simp, by omega, by rw [HT7a.out], HT8.out, by have := HG7.out; rwa [show 10000 + ((i + 1 : Nat) : Int) = 10000 + (i : Int) + 1 by omega]⟩
                          case measure => simp [intOf] <;> omega
                        · have hinI : ¬ (i : Int) < (n : Int) := by omega
                          go_wp2_with fail
                          go_roundw
                          case rel => exact ⟨i + 1, lab1, V1, M1, vr, ur, E1, H1, by simp, by omega, by rw [HTO.out], HTQ.out.idle (by omega), (HG3.out.up (by omega) (by omega)).weaken fun _ _ h => .inl h⟩
                          case measure => simp [intOf] <;> omega
          · have hiI : ¬ (i : Int) ≤ (n : Int) := by omega
            go_wp2
            go_ret
            exact ⟨rfl, by first | exact HB0.out.trans (HT2.out.tw.x.bel.mono HB0.out.size) | (rw [← hbx]; exact HB0.out.trans (HT2.out.tw.x.bel.mono HB0.out.size))⟩
    · have h30d : decide ((30 : Int) < (n : Int)) = true := decide_eq_true (by omega)
      have h30I : (30 : Int) < (n : Int) := by omega
      go_wp2
      go_ret
      exact ⟨rfl, HBB2.out⟩
end Go.Proofs.YtejcemmhhpbchaaGreat
