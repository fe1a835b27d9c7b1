/- Texts in one: MapP, Pm, PAdd, OrI. -/
import Derived.Test.YtnmacalbbmeedaaGreatQ03
import Derived.Maps.RangeWalk
import Derived.Maps.OwnOps
import Derived.Maps.OwnSet
import Derived.WideKeyEntry
import Derived.DeepKeys4
import Derived.Lib.Hide
import Derived.Deep.RegionHeld3
import Derived.Shelf.SlSortCmp.QuietGrown
/- A map of pairs to numbers. -/
namespace Go.Proofs.YtnmacalbbmeedaaGreat
open Go.RowKit Go.Maps Go.ChangeShapes Go.WideShapes

def FitsPr (p : Int × Int) : Prop := (-9223372036854775808 ≤ p.1 ∧ p.1 ≤ 9223372036854775807) ∧ (-9223372036854775808 ≤ p.2 ∧ p.2 ≤ 9223372036854775807)
def pv (p : Int × Int) : Value := .agg #[.int .i64 p.1, .int .i64 p.2]
def pk (p : Int × Int) : Lit := .string (keyBytes [.int .i64 p.1, .int .i64 p.2])
set_option maxRecDepth 100000 in
theorem Tryz.laid0 : laidOutB Tryz.prog = true := by kernel_rfl
set_option maxRecDepth 100000 in
theorem plaw : WideMaps.KeyLaw Tryz.prog 77 := deep_law_laid Tryz.laid0 (m := 2) (by omega) (of_decide_eq_true (by kernel_rfl)) (by kernel_rfl) (by rw [Tryz.underlying77])
set_option maxRecDepth 100000 in
theorem lawP : Keyed Tryz.prog 77 := Keyed.of_law plaw
set_option maxRecDepth 100000 in
theorem kt32 : Tryz.prog.keyType 77 = true := by kernel_rfl
set_option maxRecDepth 100000 in
theorem size_types : Tryz.prog.types.size + 1 = 245 + 1 + 1 := by kernel_rfl
set_option maxRecDepth 100000 in
theorem wfI {a : Int} (h : -9223372036854775808 ≤ a ∧ a ≤ 9223372036854775807) : (Lit.int .i64 a).wf = true := WalkArith.wf_i64 (by omega)
set_option maxRecDepth 100000 in
theorem lits_pair (d : Nat) {a b : Int} (ha : -9223372036854775808 ≤ a ∧ a ≤ 9223372036854775807) (hb : -9223372036854775808 ≤ b ∧ b ≤ 9223372036854775807) : Tryz.prog.keyLits (d + 1 + 1) 77 [.int .i64 a, .int .i64 b] = some [.int .i64 a, .int .i64 b] := by
  have h1 := wfI ha
  have h2 := wfI hb
  have hc : Tryz.prog.cellsOf 77 = 2 := by kernel_rfl
  have hc3 : Tryz.prog.cellsOf 3 = 1 := by kernel_rfl
  simp [Program.keyLits, Tryz.underlying77, Tryz.underlying3, hc, hc3, h1, h2]
set_option maxRecDepth 100000 in
theorem lits_pair_inv (d : Nat) {x y : Value} {l : List Lit} (h : Tryz.prog.keyLits (d + 1 + 1) 77 [x, y] = some l) : ∃ p, FitsPr p ∧ x = .int .i64 p.1 ∧ y = .int .i64 p.2 ∧ l = [.int .i64 p.1, .int .i64 p.2] := by
  have hc : Tryz.prog.cellsOf 77 = 2 := by kernel_rfl
  have hc3 : Tryz.prog.cellsOf 3 = 1 := by kernel_rfl
  have one : ∀ {v : Value} {m : List Lit}, Tryz.prog.keyLits (d + 1) 3 [v] = some m → ∃ a, (-9223372036854775808 ≤ a ∧ a ≤ 9223372036854775807) ∧ v = .int .i64 a ∧ m = [.int .i64 a] := by
    intro v m hm
    cases v <;> simp [Program.keyLits, Tryz.underlying3] at hm
    obtain ⟨⟨rfl, hw⟩, rfl⟩ := hm
    exact ⟨_, bounds_i64 hw, rfl, rfl⟩
  unfold Program.keyLits at h
  rw [Tryz.underlying77] at h
  simp only [hc, List.length_cons, List.length_nil] at h
  simp [hc3] at h
  cases h1 : Tryz.prog.keyLits (d + 1) 3 [x] with
  | none => rw [h1] at h; cases h
  | some m1 =>
    cases h2 : Tryz.prog.keyLits (d + 1) 3 [y] with
    | none => rw [h1, h2] at h; cases h
    | some m2 =>
      rw [h1, h2] at h
      obtain ⟨a, ha, rfl, rfl⟩ := one h1
      obtain ⟨b, hb, rfl, rfl⟩ := one h2
      exact ⟨(a, b), ⟨ha, hb⟩, rfl, rfl, by simpa using h.symm⟩
set_option maxRecDepth 100000 in
theorem key_pair {p : Int × Int} (h : FitsPr p) : keyOf Tryz.prog 77 (pv p) = some (pk p) := by
  have hc : Tryz.prog.cellsOf 77 = 2 := by kernel_rfl
  have hf : (pv p).formed Tryz.prog 77 = true := by simp [pv, Value.formed, Tryz.underlying77, hc]
  unfold keyOf
  rw [Tryz.underlying77]
  simp only [kt32, hf, Bool.and_self, if_true]
  rw [size_types]
  have e : (pv p).cells.toList = [.int .i64 p.1, .int .i64 p.2] := by simp [pv, Value.cells]
  rw [e, lits_pair _ h.1 h.2]
  rfl
set_option maxRecDepth 100000 in
theorem key_pair_inv {key : Value} {kl : Lit} (h : keyOf Tryz.prog 77 key = some kl) : ∃ p, key = pv p ∧ kl = pk p ∧ FitsPr p := by
  have hc : Tryz.prog.cellsOf 77 = 2 := by kernel_rfl
  have hc3 : Tryz.prog.cellsOf 3 = 1 := by kernel_rfl
  unfold keyOf at h
  rw [Tryz.underlying77] at h
  simp only at h
  split at h
  · rename_i hk
    rw [kt32, Bool.true_and] at hk
    cases key <;> simp [Value.formed, Tryz.underlying77] at hk
    rename_i cs
    obtain ⟨cs⟩ := cs
    rw [hc] at hk
    match cs, hk with
    | [x, y], _ =>
      rw [size_types] at h
      obtain ⟨l, h1, rfl⟩ := Option.map_eq_some_iff.1 h
      obtain ⟨p, hp, rfl, rfl, rfl⟩ := lits_pair_inv 245 (x := x) (y := y) (by simpa [Value.cells] using h1)
      exact ⟨p, rfl, rfl, hp⟩
  · cases h
set_option maxRecDepth 100000 in
theorem pk_inj {p q : Int × Int} (hp : FitsPr p) (hq : FitsPr q) (h : pk p = pk q) : p = q := by
  have := lawP.inj (key_pair hp) (h ▸ key_pair hq)
  unfold pv at this
  simp only [Value.agg.injEq, Array.mk.injEq, List.cons.injEq, Value.int.injEq, true_and, and_true] at this
  exact Prod.ext this.1 this.2
set_option maxRecDepth 100000 in
theorem pk_key (p : Int × Int) : WideAt.IsKeyLit (pk p) := trivial
set_option maxRecDepth 100000 in
/-- 'm[k]' for writing, and the write: between the two the map holds at least what it held. -/
theorem entry_own {H : Type} {P : Program} {w : World} {t k e : TypeId} {R : Value → Option (DataW H × List MemPlace)} {b n : Nat} {D : DataW H} (h : w.ownsMap P k R b n D) (K : WideMaps.KeyLaw P k) (ht : P.underlying t = some (.map k e)) (hn : n < maxLen) {z : Value} (hz : ∀ u : World, (zeroValue e).run P u = .ok z u)
    {zd : DataW H} {zp : List MemPlace} (hzd : R z = some (zd, zp)) {key : Value} {kl : Lit} (hkey : keyOf P k key = some kl) :
    ∃ v0 st w2 D2, (Instr.mapEntry t (.map (some b)) key).run P w = .ok (.tuple #[v0, goInt st]) w2 ∧ w2.ownsMap P k R b (n + 1) D2 ∧ D2.atKey kl zd = D.atKey kl zd ∧ w.mapTurned w2 b ∧
      ∀ val d ps, R val = some (d, ps) → ∃ w3, (Instr.entryStore t (.map (some b)) (goInt st) val).run P w2 = .ok () w3 ∧ w3.ownsMap P k R b (n + 1) (D.put kl d) ∧ w.mapTurned w3 b := by
  have h0 := h
  obtain ⟨es, clock, hb, F, hs, rfl⟩ := h
  have hK := Keyed.of_law K
  obtain ⟨w', hu', ho', ht'⟩ := h0.store hK ht hn hkey hzd
  obtain ⟨v0, st, es1, clock1, h1, _, h3⟩ := WideElems.entry_then_store K ht hz hb F hkey
  refine ⟨v0, st, ChangeMaps.setBlock w b (.map es1 clock1), ?_⟩
  have hst : ∀ val d ps, R val = some (d, ps) → ∃ w3, (Instr.entryStore t (.map (some b)) (goInt st) val).run P (ChangeMaps.setBlock w b (.map es1 clock1)) = .ok () w3 ∧ w3.ownsMap P k R b (n + 1) ((DataW.map ((es.toList.map (WideElems.rg P k R)).foldr DataW.insert [])).put kl d) ∧ w.mapTurned w3 b := by
    intro val d ps hv
    obtain ⟨es', clock', r1, r2⟩ := h3 (ChangeMaps.setBlock w b (.map es1 clock1)) val (ChangeMaps.heap_setBlock_same hb _)
    obtain ⟨w3, q1, q2, q3⟩ := h0.store hK ht hn hkey hv
    rw [r2] at q1
    cases q1
    exact ⟨_, by rw [r1]; simp [ChangeMaps.setBlock], q2, q3⟩
  rcases K.find w hkey es.toList F.keys with ⟨f1, f2⟩ | ⟨j, e0, f1, f2, f3⟩
  · have m1 : (Instr.mapEntry t (.map (some b)) key).run P w = .ok (.tuple #[z, goInt clock]) (ChangeMaps.setBlock w b (.map (es.push ⟨key, z, clock⟩) (clock + 1))) := by
      simp [Instr.mapEntry, run_underlying ht, MapKept.run_getObj_map hb, K.check w false hkey, f1, hz, MapKept.run_setObj_map _ hb, Result.andThen, ChangeMaps.setBlock]
    have m2 : (Instr.mapUpdate t (.map (some b)) key z).run P w = .ok () (ChangeMaps.setBlock w b (.map (es.push ⟨key, z, clock⟩) (clock + 1))) := by
      simp [Instr.mapUpdate, run_underlying ht, MapKept.run_getObj_map hb, K.check w false hkey, f1, MapKept.run_setObj_map _ hb, Result.andThen, ChangeMaps.setBlock]
    have hw : ChangeMaps.setBlock w b (.map es1 clock1) = w' := by
      rw [m1] at h1
      rw [m2] at hu'
      injection h1 with _ e1
      injection hu' with _ e2
      rw [← e1, e2]
    refine ⟨_, h1, hw ▸ ho', ?_, hw ▸ ht', hst⟩
    rw [Maps.atKey_put_same h0.isMap (by obtain ⟨s, rfl⟩ := K.str hkey; trivial)]
    rcases Maps.fit_look false hK ht (hz w) hb F hkey with ⟨_, _, hat⟩ | ⟨e0, y, hm, he, _⟩
    · rw [hat]
    · exact absurd he (f2 e0 hm)
  · have hj : es[j]? = some e0 := by simpa using f2
    have hsame : es.modify j (fun e => { e with key := key }) = es := by
      apply Array.ext'
      rw [Array.toList_modify, ChangeMaps.modify_eq_set _ _ _ _ f2]
      have : ({ e0 with key := key } : MapEntry) = e0 := by rw [← f3]
      rw [this]
      exact WideElems.set_self _ _ _ f2
    have m1 : (Instr.mapEntry t (.map (some b)) key).run P w = .ok (.tuple #[e0.val, goInt e0.born]) (ChangeMaps.setBlock w b (.map es clock)) := by
      simp [Instr.mapEntry, run_underlying ht, MapKept.run_getObj_map hb, K.check w false hkey, f1, hj, f3, K.stays w hkey, hsame, MapKept.run_setObj_map _ hb, Result.andThen, ChangeMaps.setBlock]
    have hw : ChangeMaps.setBlock w b (.map es1 clock1) = ChangeMaps.setBlock w b (.map es clock) := by
      rw [m1] at h1
      injection h1 with _ e1
      exact e1.symm
    refine ⟨_, h1, hw ▸ ⟨es, clock, ChangeMaps.heap_setBlock_same hb _, F, by omega, rfl⟩, rfl, hw ▸ ⟨es, clock, es, clock, hb, rfl⟩, hst⟩
set_option maxRecDepth 100000 in
theorem pzero3 (w : World) : (zeroValue 3).run Tryz.prog w = .ok (.int .i64 0) w := by kernel_rfl
/-- Block b is a map that tells f p of each pair p; a pair with 0 isn't there. N: how often it was written at most. -/
def PMap (w : World) (b N : Nat) (f : Int × Int → Int) : Prop :=
  ∃ D : DataW Unit, w.ownsMap Tryz.prog 77 (plainElem Tryz.prog 3) b N D ∧ (∀ p, FitsPr p → D.atKey (pk p) (.lit (.int .i64 0)) = .lit (.int .i64 (f p)) ∧ Maps.has D (pk p) = decide (f p ≠ 0)) ∧ ∀ p, -(N : Int) ≤ f p ∧ f p ≤ (N : Int)
set_option maxRecDepth 100000 in
theorem PMap.kept {w w' : World} {b N : Nat} {f : Int × Int → Int} (h : PMap w b N f) (hk : w'.heap[b]? = w.heap[b]?) : PMap w' b N f := by
  obtain ⟨D, ⟨es, clock, hb, rest⟩, h1⟩ := h
  exact ⟨D, ⟨es, clock, hk.trans hb, rest⟩, h1⟩
set_option maxRecDepth 100000 in
theorem PMap.lt {w : World} {b N : Nat} {f : Int × Int → Int} (h : PMap w b N f) : b < w.heap.size := by
  obtain ⟨D, h0, _⟩ := h
  exact World.ownsMap.lt h0
set_option maxRecDepth 100000 in
theorem PMap.block {w : World} {b N : Nat} {f : Int × Int → Int} (h : PMap w b N f) : ∃ es clock, w.heap[b]? = some (.map es clock) := by
  obtain ⟨D, ⟨es, clock, hb, _⟩, _⟩ := h
  exact ⟨es, clock, hb⟩
def addP (f : Int × Int → Int) (p : Int × Int) (by' : Int) : Int × Int → Int := fun q => if q = p then f q + by' else f q
set_option maxRecDepth 100000 in
theorem turned_heap {w w' : World} {b : Nat} (h : w.mapTurned w' b) (k : Nat) (hk : k ≠ b) : w'.heap[k]? = w.heap[k]? := by
  obtain ⟨es, clock, es', clock', hb, rfl⟩ := h
  exact ChangeMaps.heap_setBlock_other hb _ hk
set_option maxRecDepth 100000 in
theorem turned_cell {w w' : World} {b : Nat} (h : w.mapTurned w' b) (a : Addr) (ha : a.block ≠ b) : w'.cell? a = w.cell? a := World.cell?_of_block (turned_heap h _ ha)
/-- What adding to a map does, step by step. -/
structure AddRuns (w : World) (b N : Nat) (f : Int × Int → Int) (p : Int × Int) (d : Int) (w2 w3 w4 : World) (v0 : Value) (st : Int) : Prop where
  look : (Instr.lookup 168 (.map (some b)) (pv p) false).run Tryz.prog w = .ok (.int .i64 (f p)) w
  entry : (Instr.mapEntry 168 (.map (some b)) (pv p)).run Tryz.prog w = .ok (.tuple #[v0, goInt st]) w2
  look2 : (Instr.lookup 168 (.map (some b)) (pv p) false).run Tryz.prog w2 = .ok (.int .i64 (f p)) w2
  store : (Instr.entryStore 168 (.map (some b)) (goInt st) (.int .i64 (f p + d))).run Tryz.prog w2 = .ok () w3
  look3 : (Instr.lookup 168 (.map (some b)) (pv p) false).run Tryz.prog w3 = .ok (.int .i64 (f p + d)) w3
  drop : ∀ ty, (Builtin.delete_ #[168, 77] ty #[.map (some b), pv p]).run Tryz.prog w3 = .ok (.tuple #[]) w4
  turn2 : w.mapTurned w2 b
  turn3 : w.mapTurned w3 b
  turn4 : w.mapTurned w4 b
  there : f p + d ≠ 0 → PMap w3 b (N + 1) (addP f p d)
  gone : f p + d = 0 → PMap w4 b (N + 1) (addP f p d)
set_option maxRecDepth 100000 in
theorem add_runs {w : World} {b N : Nat} {f : Int × Int → Int} (h : PMap w b N f) {p : Int × Int} (hp : FitsPr p) {d : Int} (hd : -1 ≤ d ∧ d ≤ 1) (hN : N ≤ 1000000) : ∃ w2 w3 w4 v0 st, AddRuns w b N f p d w2 w3 w4 v0 st := by
  obtain ⟨D, hown, hat, hb⟩ := h
  have hk := key_pair hp
  have hu := Tryz.underlying168
  have hf := hb p
  have hz : plainElem (H := Unit) Tryz.prog 3 (.int .i64 0) = some (.lit (.int .i64 0), []) := plainElem_int Tryz.underlying3 (by decide)
  have hv : plainElem (H := Unit) Tryz.prog 3 (.int .i64 (f p + d)) = some (.lit (.int .i64 (f p + d)), []) := plainElem_int Tryz.underlying3 (wfI (by omega))
  have hlook : ∀ {u : World} {n : Nat} {E : DataW Unit} {c : Int}, u.ownsMap Tryz.prog 77 (plainElem Tryz.prog 3) b n E → E.atKey (pk p) (.lit (.int .i64 0)) = .lit (.int .i64 c) → (Instr.lookup 168 (.map (some b)) (pv p) false).run Tryz.prog u = .ok (.int .i64 c) u := by
    intro u n E c ho he
    obtain ⟨c', hr, ha, _⟩ := World.ownsMap.lookup_int ho lawP hu Tryz.underlying3 (pzero3 u) hk
    rw [he] at ha
    cases ha
    exact hr
  obtain ⟨v0, st, w2, D2, h1, h2, h3, h4, h5⟩ := entry_own hown plaw hu (by unfold maxLen; omega) pzero3 hz hk
  obtain ⟨w3, s1, s2, s3⟩ := h5 _ _ _ hv
  obtain ⟨w4, r1, r2, r3⟩ := s2.drop lawP hu hk 0
  have hr4 : ∀ ty, (Builtin.delete_ #[168, 77] ty #[.map (some b), pv p]).run Tryz.prog w3 = .ok (.tuple #[]) w4 := by
    intro ty
    rw [← r1]
    rfl
  have hM := hown.isMap
  have ne : ∀ q, FitsPr q → q ≠ p → pk q ≠ pk p := fun q hq hne e => hne (pk_inj hq hp e)
  refine ⟨w2, w3, w4, v0, st, hlook hown (hat p hp).1, h1, hlook h2 (h3.trans (hat p hp).1), s1, hlook s2 (atKey_put_same hM (pk_key p) _ _), hr4, h4, s3, s3.trans r3, fun hne => ?_, fun he => ?_⟩
  · refine ⟨_, s2, fun q hq => ?_, fun q => ?_⟩
    · unfold addP
      by_cases e : q = p
      · subst e
        rw [if_pos rfl, atKey_put_same hM (pk_key _), has_put_same hM (pk_key _)]
        exact ⟨rfl, (decide_eq_true hne).symm⟩
      · rw [if_neg e, atKey_put_other (ne q hq e), has_put_other (ne q hq e)]
        exact hat q hq
    · unfold addP
      have := hb q
      split <;> omega
  · refine ⟨_, r2, fun q hq => ?_, fun q => ?_⟩
    · unfold addP
      by_cases e : q = p
      · subst e
        rw [if_pos rfl, he, atKey_del_same, has_del_same]
        exact ⟨rfl, rfl⟩
      · rw [if_neg e, atKey_del_other (ne q hq e), has_del_other (ne q hq e), atKey_put_other (ne q hq e), has_put_other (ne q hq e)]
        exact hat q hq
    · unfold addP
      have := hb q
      split <;> omega
set_option maxRecDepth 100000 in
theorem pmap_made (w : World) : PMap (w.alloc (.map #[] 0)) w.heap.size 0 (fun _ => 0) :=
  ⟨.map [], World.ownsMap_made w Tryz.prog 77 _, fun p _ => ⟨rfl, rfl⟩, fun _ => ⟨by simp, by simp⟩⟩
end Go.Proofs.YtnmacalbbmeedaaGreat
/- Pairs of a list, counted; a list merged; changes: plain lists. -/
namespace Go.Proofs.YtnmacalbbmeedaaGreat

/-- How often a pair is there, overlapping ones too. -/
def cntP : List Int → Int × Int → Int
  | x :: y :: r, q => (if (x, y) = q then 1 else 0) + cntP (y :: r) q
  | _, _ => 0
set_option maxRecDepth 100000 in
theorem cnt_nil (q : Int × Int) : cntP [] q = 0 := rfl
set_option maxRecDepth 100000 in
theorem cnt_single (x : Int) (q : Int × Int) : cntP [x] q = 0 := rfl
set_option maxRecDepth 100000 in
theorem cnt_snoc (a t : Int) (q : Int × Int) : ∀ A : List Int, cntP (A ++ [a] ++ [t]) q = cntP (A ++ [a]) q + (if (a, t) = q then 1 else 0)
  | [] => by simp [cntP]
  | [x] => by simp [cntP]
  | x :: y :: A => by
    have ih := cnt_snoc a t q (y :: A)
    simp only [List.cons_append] at ih ⊢
    rw [cntP, ih, cntP]; omega
set_option maxRecDepth 100000 in
theorem cnt_last {M : List Int} (hM : 0 < M.length) (t : Int) (q : Int × Int) : cntP (M ++ [t]) q = cntP M q + (if (M[M.length - 1], t) = q then 1 else 0) := by
  have hne : M ≠ [] := fun e => by subst e; simp at hM
  have e : M = M.dropLast ++ [M[M.length - 1]] := by
    rw [← List.getLast_eq_getElem hne, List.dropLast_concat_getLast]
  have := cnt_snoc M[M.length - 1] t q M.dropLast
  rwa [← e] at this
set_option maxRecDepth 100000 in
theorem cnt_take_one (X : List Int) (q : Int × Int) : cntP (X.take 1) q = 0 := by
  match X with
  | [] => rfl
  | [x] => rfl
  | x :: y :: r => rfl
set_option maxRecDepth 100000 in
theorem ptake_snoc {X : List Int} {k : Nat} (hk : k < X.length) : X.take (k + 1) = X.take k ++ [X[k]] := by rw [List.take_add_one, List.getElem?_eq_getElem hk]; rfl
set_option maxRecDepth 100000 in
theorem cnt_take {X : List Int} {k : Nat} (h0 : 0 < k) (hk : k < X.length) (q : Int × Int) : cntP (X.take (k + 1)) q = cntP (X.take k) q + (if (X[k - 1], X[k]) = q then 1 else 0) := by
  have hl : (X.take k).length = k := by simp; omega
  have := cnt_last (M := X.take k) (by omega) X[k] q
  rw [← ptake_snoc hk] at this
  rw [this]
  simp only [hl, List.getElem_take]
set_option maxRecDepth 100000 in
theorem cnt_nonneg : ∀ (X : List Int) (q : Int × Int), 0 ≤ cntP X q
  | [], _ => by simp [cntP]
  | [x], _ => by simp [cntP]
  | x :: y :: r, q => by rw [cntP]; have := cnt_nonneg (y :: r) q; split <;> omega
set_option maxRecDepth 100000 in
theorem cnt_mem : ∀ {X : List Int} {q : Int × Int}, cntP X q ≠ 0 → q.1 ∈ X ∧ q.2 ∈ X
  | [], _, h => by simp [cntP] at h
  | [x], _, h => by simp [cntP] at h
  | x :: y :: r, q, h => by
    rw [cntP] at h
    by_cases e : (x, y) = q
    · subst e; simp
    · rw [if_neg e] at h
      have := cnt_mem (X := y :: r) (q := q) (by omega)
      exact ⟨List.mem_cons_of_mem _ this.1, List.mem_cons_of_mem _ this.2⟩
/-- The symbol in the place of each pair, from the left to the right. -/
def mergeL (p : Int × Int) (s : Int) : List Int → List Int
  | x :: y :: r => if x = p.1 ∧ y = p.2 then s :: mergeL p s r else x :: mergeL p s (y :: r)
  | [x] => [x]
  | [] => []
def timesL (p : Int × Int) : List Int → Nat
  | x :: y :: r => if x = p.1 ∧ y = p.2 then timesL p r + 1 else timesL p (y :: r)
  | [_] => 0
  | [] => 0
set_option maxRecDepth 100000 in
theorem mergeL_mem {p : Int × Int} {s x : Int} : ∀ {X : List Int}, x ∈ mergeL p s X → x ∈ X ∨ x = s
  | [], h => by simp [mergeL] at h
  | [y], h => by simp [mergeL] at h; exact .inl (by simp [h])
  | y :: z :: r, h => by
    rw [mergeL] at h
    split at h
    · rcases List.mem_cons.1 h with h | h
      · exact .inr h
      · rcases mergeL_mem (X := r) h with h | h
        · exact .inl (by simp [h])
        · exact .inr h
    · rcases List.mem_cons.1 h with h | h
      · exact .inl (by simp [h])
      · rcases mergeL_mem (X := z :: r) h with h | h
        · exact .inl (List.mem_cons_of_mem _ h)
        · exact .inr h
set_option maxRecDepth 100000 in
theorem pmerge_len {p : Int × Int} {s : Int} : ∀ X : List Int, (mergeL p s X).length + timesL p X = X.length
  | [] => rfl
  | [y] => rfl
  | y :: z :: r => by
    rw [mergeL, timesL]
    split
    · have := pmerge_len (p := p) (s := s) r; simp; omega
    · have := pmerge_len (p := p) (s := s) (z :: r); simp at this ⊢; omega
set_option maxRecDepth 100000 in
theorem addP_eq (f : Int × Int → Int) (p : Int × Int) (d : Int) (q : Int × Int) : addP f p d q = f q + (if p = q then d else 0) := by
  unfold addP
  by_cases e : q = p
  · subst e; simp
  · rw [if_neg e, if_neg fun h => e h.symm]; omega
/-- So far: k symbols are read, M is laid, n were merged, f tells what changed. -/
structure MInv (X : List Int) (p : Int × Int) (s : Int) (k : Nat) (M : List Int) (n : Nat) (f : Int × Int → Int) (was : Bool) : Prop where
  le : k ≤ X.length
  size : M.length + n = k
  same : n = 0 → M = X.take k
  emp : 0 < k → 0 < M.length
  rest : M ++ mergeL p s (X.drop k) = mergeL p s X
  many : n + timesL p (X.drop k) = timesL p X
  tells : ∀ q, f q = cntP M q - cntP (X.take k) q
  last : was = false → ∀ (_ : 0 < k) (h2 : 0 < M.length) (h3 : k - 1 < X.length), M[M.length - 1] = X[k - 1]
set_option maxRecDepth 100000 in
theorem minv_start (X : List Int) (p : Int × Int) (s : Int) : MInv X p s 0 [] 0 (fun _ => 0) false :=
  ⟨Nat.zero_le _, rfl, fun _ => by simp, fun h => by omega, by simp, by simp, fun q => by simp [cntP], fun _ h => by omega⟩
set_option maxRecDepth 100000 in
theorem drop_two {X : List Int} {k : Nat} (h1 : k + 1 < X.length) : X.drop k = X[k] :: X[k + 1] :: X.drop (k + 2) := by
  rw [List.drop_eq_getElem_cons (by omega), List.drop_eq_getElem_cons h1]
set_option maxRecDepth 100000 in
theorem minv_mem {X : List Int} {p : Int × Int} {s : Int} {k : Nat} {M : List Int} {n : Nat} {f : Int × Int → Int} {was : Bool} (h : MInv X p s k M n f was) {x : Int} (hx : x ∈ M) : x ∈ X ∨ x = s :=
  mergeL_mem (p := p) (by rw [← h.rest]; exact List.mem_append_left _ hx)
section
variable {X : List Int} {p : Int × Int} {s : Int} {k : Nat} {M : List Int} {n : Nat} {f g : Int × Int → Int} {was : Bool}
set_option maxRecDepth 100000 in
/-- A merge. -/
theorem minv_merge (h : MInv X p s k M n f was) (h1 : k + 1 < X.length) (e0 : X[k] = p.1) (e1 : X[k + 1] = p.2)
    (hg : ∀ q, g q = f q - (if p = q then 1 else 0) + (if h : 0 < k ∧ 0 < M.length then (if (M[M.length - 1]'(by omega), s) = q then 1 else 0) - (if (X[k - 1], X[k]) = q then 1 else 0) else 0)) : MInv X p s (k + 2) (M ++ [s]) (n + 1) g true := by
  have hd := drop_two h1
  have hsz := h.size
  refine ⟨by omega, by simp; omega, fun h0 => by omega, fun _ => by simp, ?_, ?_, fun q => ?_, fun h0 => by cases h0⟩
  · have := h.rest
    rw [hd, mergeL, if_pos ⟨e0, e1⟩] at this
    rw [← this]; simp
  · have := h.many
    rw [hd, timesL, if_pos ⟨e0, e1⟩] at this
    omega
  · have ep : p = (X[k], X[k + 1]) := by rw [e0, e1]
    rw [hg q, h.tells q, cnt_take (k := k + 1) (by omega) h1]
    simp only [Nat.add_sub_cancel]
    by_cases hk : 0 < k
    · have hM := h.emp hk
      rw [dif_pos ⟨hk, hM⟩, cnt_last hM, cnt_take hk (by omega), ← ep]
      omega
    · have hk0 : k = 0 := by omega
      subst hk0
      have hM : M = [] := List.eq_nil_of_length_eq_zero (by omega)
      subst hM
      rw [dif_neg (by simp), ← ep]
      simp only [Nat.zero_add, cnt_take_one, List.take_zero, cnt_nil, List.nil_append, cnt_single]
      omega
set_option maxRecDepth 100000 in
/-- A symbol as it was. -/
theorem minv_keep (h : MInv X p s k M n f was) (h1 : k < X.length) (hno : ∀ h2 : k + 1 < X.length, ¬ (X[k] = p.1 ∧ X[k + 1] = p.2))
    (hg : ∀ q, g q = f q + (if h : (0 < k ∧ 0 < M.length) ∧ was = true then (if (M[M.length - 1]'(by omega), X[k]) = q then 1 else 0) - (if (X[k - 1], X[k]) = q then 1 else 0) else 0)) : MInv X p s (k + 1) (M ++ [X[k]]) n g false := by
  have hsz := h.size
  have hd : X.drop k = X[k] :: X.drop (k + 1) := List.drop_eq_getElem_cons h1
  have hml : mergeL p s (X.drop k) = X[k] :: mergeL p s (X.drop (k + 1)) ∧ timesL p (X.drop k) = timesL p (X.drop (k + 1)) := by
    by_cases h2 : k + 1 < X.length
    · have hd2 : X.drop (k + 1) = X[k + 1] :: X.drop (k + 2) := List.drop_eq_getElem_cons h2
      rw [hd, hd2, mergeL, timesL, if_neg (hno h2), if_neg (hno h2)]
      exact ⟨rfl, rfl⟩
    · have : X.drop (k + 1) = [] := List.drop_eq_nil_of_le (by omega)
      rw [hd, this]
      exact ⟨rfl, rfl⟩
  refine ⟨by omega, by simp; omega, fun h0 => by rw [ptake_snoc h1, h.same h0], fun _ => by simp, ?_, by rw [← hml.2]; exact h.many, fun q => ?_, fun _ _ _ _ => by simp⟩
  · have := h.rest
    rw [hml.1] at this
    rw [← this]; simp
  · rw [hg q, h.tells q]
    by_cases hk : 0 < k
    · have hM := h.emp hk
      rw [cnt_last hM, cnt_take hk h1]
      cases hw : was with
      | true => rw [dif_pos ⟨⟨hk, hM⟩, rfl⟩]; omega
      | false =>
        rw [dif_neg (by simp), h.last hw hk hM (by omega)]
        omega
    · have hk0 : k = 0 := by omega
      subst hk0
      have hM : M = [] := List.eq_nil_of_length_eq_zero (by omega)
      subst hM
      rw [dif_neg (by simp)]
      simp only [Nat.zero_add, cnt_take_one, List.take_zero, cnt_nil, List.nil_append, cnt_single]
      omega
set_option maxRecDepth 100000 in
theorem minv_end (h : MInv X p s X.length M n f was) : M = mergeL p s X ∧ n = timesL p X ∧ ∀ q, f q = cntP (mergeL p s X) q - cntP X q := by
  have h1 := h.rest
  have h2 := h.many
  have h3 := h.tells
  rw [List.drop_length] at h1 h2
  simp only [mergeL, timesL, List.append_nil, Nat.add_zero] at h1 h2
  refine ⟨h1, h2, fun q => ?_⟩
  rw [h3 q, h1, List.take_length]
end
/-! Changes. -/
abbrev Chg := (Int × Int) × Int
/-- Is a pair ahead of another one? -/
def pb (p q : Int × Int) : Prop := p.1 < q.1 ∨ (p.1 = q.1 ∧ p.2 < q.2)
set_option maxRecDepth 100000 in
theorem pb_asymm {p q : Int × Int} (h : pb p q) : ¬ pb q p := by unfold pb at *; omega
set_option maxRecDepth 100000 in
theorem pb_trans {p q r : Int × Int} (h : pb p q) (k : pb q r) : pb p r := by unfold pb at *; omega
set_option maxRecDepth 100000 in
theorem pb_irrefl (p : Int × Int) : ¬ pb p p := by unfold pb; omega
set_option maxRecDepth 100000 in
theorem pb_total {p q : Int × Int} (h : p ≠ q) : pb p q ∨ pb q p := by
  unfold pb
  by_cases h1 : p.1 = q.1
  · by_cases h2 : p.2 = q.2
    · exact absurd (Prod.ext h1 h2) h
    · omega
  · omega
/-- The changes that f tells, rising. -/
def ChangesOf (f : Int × Int → Int) (L : List Chg) : Prop := L.Pairwise (fun x y => pb x.1 y.1) ∧ ∀ p c, (p, c) ∈ L ↔ FitsPr p ∧ f p = c ∧ c ≠ 0
set_option maxRecDepth 100000 in
theorem rising_unique {α : Type} {R : α → α → Prop} (hR : ∀ a b, R a b → ¬ R b a) : ∀ {a b : List α}, (∀ x, x ∈ a ↔ x ∈ b) → a.Pairwise R → b.Pairwise R → a = b
  | [], b, h, _, _ => by
    cases b with
    | nil => rfl
    | cons y b => exact absurd ((h y).2 (by simp)) (by simp)
  | x :: a, [], h, _, _ => absurd ((h x).1 (by simp)) (by simp)
  | x :: a, y :: b, h, ha, hb => by
    rw [List.pairwise_cons] at ha hb
    have hxy : x = y := by
      rcases List.mem_cons.1 ((h x).1 (by simp)) with e | e
      · exact e
      · rcases List.mem_cons.1 ((h y).2 (by simp)) with e2 | e2
        · exact e2.symm
        · exact absurd (hb.1 x e) (hR _ _ (ha.1 y e2))
    subst hxy
    have : a = b := rising_unique hR (fun z => ?_) ha.2 hb.2
    · rw [this]
    · constructor
      · intro hz
        rcases List.mem_cons.1 ((h z).1 (List.mem_cons_of_mem _ hz)) with e | e
        · subst e; exact absurd (ha.1 _ hz) (fun k => hR _ _ k k)
        · exact e
      · intro hz
        rcases List.mem_cons.1 ((h z).2 (List.mem_cons_of_mem _ hz)) with e | e
        · subst e; exact absurd (hb.1 _ hz) (fun k => hR _ _ k k)
        · exact e
end Go.Proofs.YtnmacalbbmeedaaGreat
/- Adding to a map of pairs. -/
namespace Go.Proofs.YtnmacalbbmeedaaGreat
open Go.RowKit Go.Maps

set_option maxRecDepth 100000 in
set_option maxHeartbeats 2000000 in
theorem padd_any (b N : Nat) (f : Int × Int → Int) (p q d : Int) (w : World) (h : PMap w b N f) (hp : FitsPr (p, q)) (hd : -1 ≤ d ∧ d ≤ 1) (hN : N ≤ 1000000) :
    Calls Tryz.prog 89 #[.map (some b), .int .i64 p, .int .i64 q, .int .i64 d] w fun e w' => e = .returned (.tuple #[]) ∧ PMap w' b (N + 1) (addP f (p, q) d) ∧ Kept (fun k => k = b) w w' := by
  obtain ⟨w1, hw1⟩ : ∃ w1, w1 = (w.alloc (.cells #[.int .i64 p, .int .i64 q] 77)).drew := ⟨_, rfl⟩
  have hlt := h.lt
  have h1 : PMap w1 b N f := by rw [hw1]; exact h.kept (Below.heap_alloc _ _ _ hlt)
  obtain ⟨w2, w3, w4, v0, st, A⟩ := add_runs h1 hp hd hN
  have HA := Lib.hid A
  have hf := (by obtain ⟨_, _, _, hb⟩ := h1; exact hb (p, q) : -(N : Int) ≤ f (p, q) ∧ f (p, q) ≤ (N : Int))
  have c0 : w1.cell? ⟨w.heap.size, 0, none⟩ = some (.int .i64 p) := by rw [hw1]; simp
  have c1 : w1.cell? ⟨w.heap.size, 1, none⟩ = some (.int .i64 q) := by rw [hw1]; simp
  have hne : w.heap.size ≠ b := by omega
  have d0 : w2.cell? ⟨w.heap.size, 0, none⟩ = some (.int .i64 p) := (turned_cell A.turn2 _ hne).trans c0
  have d1 : w2.cell? ⟨w.heap.size, 1, none⟩ = some (.int .i64 q) := (turned_cell A.turn2 _ hne).trans c1
  have e0 : w3.cell? ⟨w.heap.size, 0, none⟩ = some (.int .i64 p) := (turned_cell A.turn3 _ hne).trans c0
  have e1 : w3.cell? ⟨w.heap.size, 1, none⟩ = some (.int .i64 q) := (turned_cell A.turn3 _ hne).trans c1
  have HG : Hid (Kept (fun k => k = b) w w1) := Lib.hid (by rw [hw1]; exact ((Kept.refl _ w).alloc _).drew)
  have hx := wfI (a := f (p, q) + d) (by omega)
  obtain ⟨g, hg⟩ : ∃ g, f (p, q) = g := ⟨_, rfl⟩
  have l1 := A.look; have l2 := A.entry; have l3 := A.look2; have l4 := A.store; have l5 := A.look3; have l6 := A.drop
  clear A
  unfold pv at l1 l2 l3 l5 l6
  rw [hg] at l1 l3 l4 l5 hf hx
  simp only [goInt] at l1 l2 l3 l4 l5 l6
  have hw' := hw1.symm
  have hwr : IntKind.i64.wrap (g + d) = g + d := IntWalk.i64_in _ (by omega)
  clear hw1 h h1 hp
  by_cases hz : g + d = 0
  · have HZ : Hid (PMap w4 b (N + 1) (addP f (p, q) d)) := Lib.hid (HA.out.gone (by rw [hg]; exact hz))
    have HT : Hid (Kept (fun k => k = b) w w4) := Lib.hid (HG.out.grown HA.out.turn4.grown (by intro k hk _; cases hk; rfl))
    rw [hz] at l4 l5
    have hwr0 : IntKind.i64.wrap (g + d) = 0 := hwr.trans hz
    clear hwr
    clear HA HG hg hne hlt
    go_enter Tryz.func89, Tryz.ntmps89
    go_wp2_with fail
    go_region
    all_goals (go_wp2_with fail)
    all_goals (go_end0)
    all_goals exact ⟨rfl, HZ.out, HT.out⟩
  · have HZ : Hid (PMap w3 b (N + 1) (addP f (p, q) d)) := Lib.hid (HA.out.there (by rw [hg]; exact hz))
    have HT : Hid (Kept (fun k => k = b) w w3) := Lib.hid (HG.out.grown HA.out.turn3.grown (by intro k hk _; cases hk; rfl))
    have hz' : (g + d == 0) = false := by simp [hz]
    clear HA HG hg hne hlt
    go_enter Tryz.func89, Tryz.ntmps89
    go_wp2_with fail
    go_region
    all_goals (go_wp2_with fail)
    all_goals (go_end0)
    all_goals exact ⟨rfl, HZ.out, HT.out⟩
end Go.Proofs.YtnmacalbbmeedaaGreat
/- Numbers compared; the first of two that is not 0. -/
namespace Go.Proofs.YtnmacalbbmeedaaGreat
open Go.RowKit Go.Maps

def ccmpI (a b : Int) : Int := if a < b then -1 else if b < a then 1 else 0
set_option maxRecDepth 100000 in
theorem cisNaN_any (a : Int) (w : World) : Calls Tryz.prog 92 #[.int .i64 a] w fun e w' => e = .returned (.bool false) ∧ w' = w := by
  go_enter Tryz.func92, Tryz.ntmps92
  go_wp2
  go_ret
  exact ⟨rfl, rfl⟩
set_option maxRecDepth 100000 in
theorem ccmpI_any (a b : Int) (w : World) : Calls Tryz.prog 72 #[.int .i64 a, .int .i64 b] w fun e w' => e = .returned (.int .i64 (ccmpI a b)) ∧ w' = w := by
  have c1 := cisNaN_any a w
  have c2 := cisNaN_any b w
  unfold ccmpI
  by_cases h1 : a < b
  · rw [if_pos h1]
    go_enter Tryz.func72, Tryz.ntmps72
    go_wp2_with fail
    refine c1.mono ?_
    rintro e w1 ⟨rfl, rfl⟩
    go_wp2_with fail
    refine c2.mono ?_
    rintro e w1 ⟨rfl, rfl⟩
    go_wp2
    go_ret
    exact ⟨rfl, rfl⟩
  · rw [if_neg h1]
    by_cases h2 : b < a
    · rw [if_pos h2]
      go_enter Tryz.func72, Tryz.ntmps72
      go_wp2_with fail
      refine c1.mono ?_
      rintro e w1 ⟨rfl, rfl⟩
      go_wp2_with fail
      refine c2.mono ?_
      rintro e w1 ⟨rfl, rfl⟩
      go_wp2
      go_ret
      exact ⟨rfl, rfl⟩
    · rw [if_neg h2]
      go_enter Tryz.func72, Tryz.ntmps72
      go_wp2_with fail
      refine c1.mono ?_
      rintro e w1 ⟨rfl, rfl⟩
      go_wp2_with fail
      refine c2.mono ?_
      rintro e w1 ⟨rfl, rfl⟩
      go_wp2
      go_ret
      exact ⟨rfl, rfl⟩
def orI (a b : Int) : Int := if a = 0 then b else a
set_option maxRecDepth 100000 in
set_option maxHeartbeats 1000000 in
theorem or_any (a b : Int) (g : Nat) (w : World) (h0 : w.cell? ⟨g, 0, none⟩ = some (.int .i64 a)) (h1 : w.cell? ⟨g, 1, none⟩ = some (.int .i64 b)) :
    Calls Tryz.prog 71 #[.slice (some ⟨g, 0, none⟩) 2 2] w fun e w' => e = .returned (.int .i64 (orI a b)) ∧ w' = w := by
  unfold orI
  by_cases ha : a = 0
  · rw [if_pos ha]
    subst ha
    by_cases hb : b = 0
    · subst hb
      go_enter Tryz.func71, Tryz.ntmps71
      go_wp2
      refine wp_loop_rounds 3 ?_
      rw [rounds_succ]
      go_wp2
      rw [rounds_succ]
      go_wp2
      rw [rounds_succ]
      go_wp2
      go_ret
      exact ⟨rfl, rfl⟩
    · go_enter Tryz.func71, Tryz.ntmps71
      go_wp2
      refine wp_loop_rounds 2 ?_
      rw [rounds_succ]
      go_wp2
      rw [rounds_succ]
      go_wp2
      go_ret
      exact ⟨rfl, rfl⟩
  · rw [if_neg ha]
    go_enter Tryz.func71, Tryz.ntmps71
    go_wp2
    refine wp_loop_rounds 1 ?_
    rw [rounds_succ]
    go_wp2
    go_ret
    exact ⟨rfl, rfl⟩
end Go.Proofs.YtnmacalbbmeedaaGreat
