/- A map of pairs to numbers. -/
import Derived.Test.YtejcemmhhpbchaaGreatElts
import Derived.Maps.RangeWalk
import Derived.Maps.OwnOps
import Derived.Maps.OwnSet
import Derived.WideKeyEntry
import Derived.DeepKeys4
import Derived.Lib.Hide
namespace Go.Proofs.YtejcemmhhpbchaaGreat
open Go.RowKit Go.Maps Go.ChangeShapes Go.WideShapes

def FitsPr (p : Int × Int) : Prop := (-9223372036854775808 ≤ p.1 ∧ p.1 ≤ 9223372036854775807) ∧ (-9223372036854775808 ≤ p.2 ∧ p.2 ≤ 9223372036854775807)
def pv (p : Int × Int) : Value := .agg #[.int .i64 p.1, .int .i64 p.2]
def pk (p : Int × Int) : Lit := .string (keyBytes [.int .i64 p.1, .int .i64 p.2])
set_option maxRecDepth 100000 in
theorem Tryz.laid0 : laidOutB Tryz.prog = true := by kernel_rfl
set_option maxRecDepth 100000 in
theorem plaw : WideMaps.KeyLaw Tryz.prog 37 := deep_law_laid Tryz.laid0 (m := 2) (by omega) (of_decide_eq_true (by kernel_rfl)) (by kernel_rfl) (by rw [Tryz.underlying37])
set_option maxRecDepth 100000 in
theorem lawP : Keyed Tryz.prog 37 := Keyed.of_law plaw
set_option maxRecDepth 100000 in
theorem kt32 : Tryz.prog.keyType 37 = true := by kernel_rfl
set_option maxRecDepth 100000 in
theorem size_types : Tryz.prog.types.size + 1 = 172 + 1 + 1 := by kernel_rfl
set_option maxRecDepth 100000 in
theorem wfI {a : Int} (h : -9223372036854775808 ≤ a ∧ a ≤ 9223372036854775807) : (Lit.int .i64 a).wf = true := WalkArith.wf_i64 (by omega)
set_option maxRecDepth 100000 in
theorem lits_pair (d : Nat) {a b : Int} (ha : -9223372036854775808 ≤ a ∧ a ≤ 9223372036854775807) (hb : -9223372036854775808 ≤ b ∧ b ≤ 9223372036854775807) : Tryz.prog.keyLits (d + 1 + 1) 37 [.int .i64 a, .int .i64 b] = some [.int .i64 a, .int .i64 b] := by
  have h1 := wfI ha
  have h2 := wfI hb
  have hc : Tryz.prog.cellsOf 37 = 2 := by kernel_rfl
  have hc3 : Tryz.prog.cellsOf 3 = 1 := by kernel_rfl
  simp [Program.keyLits, Tryz.underlying37, Tryz.underlying3, hc, hc3, h1, h2]
set_option maxRecDepth 100000 in
theorem lits_pair_inv (d : Nat) {x y : Value} {l : List Lit} (h : Tryz.prog.keyLits (d + 1 + 1) 37 [x, y] = some l) : ∃ p, FitsPr p ∧ x = .int .i64 p.1 ∧ y = .int .i64 p.2 ∧ l = [.int .i64 p.1, .int .i64 p.2] := by
  have hc : Tryz.prog.cellsOf 37 = 2 := by kernel_rfl
  have hc3 : Tryz.prog.cellsOf 3 = 1 := by kernel_rfl
  have one : ∀ {v : Value} {m : List Lit}, Tryz.prog.keyLits (d + 1) 3 [v] = some m → ∃ a, (-9223372036854775808 ≤ a ∧ a ≤ 9223372036854775807) ∧ v = .int .i64 a ∧ m = [.int .i64 a] := by
    intro v m hm
    cases v <;> simp [Program.keyLits, Tryz.underlying3] at hm
    obtain ⟨⟨rfl, hw⟩, rfl⟩ := hm
    exact ⟨_, bounds_i64 hw, rfl, rfl⟩
  unfold Program.keyLits at h
  rw [Tryz.underlying37] at h
  simp only [hc, List.length_cons, List.length_nil] at h
  simp [hc3] at h
  cases h1 : Tryz.prog.keyLits (d + 1) 3 [x] with
  | none => rw [h1] at h; cases h
  | some m1 =>
    cases h2 : Tryz.prog.keyLits (d + 1) 3 [y] with
    | none => rw [h1, h2] at h; cases h
    | some m2 =>
      rw [h1, h2] at h
      obtain ⟨a, ha, rfl, rfl⟩ := one h1
      obtain ⟨b, hb, rfl, rfl⟩ := one h2
      exact ⟨(a, b), ⟨ha, hb⟩, rfl, rfl, by simpa using h.symm⟩
set_option maxRecDepth 100000 in
theorem key_pair {p : Int × Int} (h : FitsPr p) : keyOf Tryz.prog 37 (pv p) = some (pk p) := by
  have hc : Tryz.prog.cellsOf 37 = 2 := by kernel_rfl
  have hf : (pv p).formed Tryz.prog 37 = true := by simp [pv, Value.formed, Tryz.underlying37, hc]
  unfold keyOf
  rw [Tryz.underlying37]
  simp only [kt32, hf, Bool.and_self, if_true]
  rw [size_types]
  have e : (pv p).cells.toList = [.int .i64 p.1, .int .i64 p.2] := by simp [pv, Value.cells]
  rw [e, lits_pair _ h.1 h.2]
  rfl
set_option maxRecDepth 100000 in
theorem key_pair_inv {key : Value} {kl : Lit} (h : keyOf Tryz.prog 37 key = some kl) : ∃ p, key = pv p ∧ kl = pk p ∧ FitsPr p := by
  have hc : Tryz.prog.cellsOf 37 = 2 := by kernel_rfl
  have hc3 : Tryz.prog.cellsOf 3 = 1 := by kernel_rfl
  unfold keyOf at h
  rw [Tryz.underlying37] at h
  simp only at h
  split at h
  · rename_i hk
    rw [kt32, Bool.true_and] at hk
    cases key <;> simp [Value.formed, Tryz.underlying37] at hk
    rename_i cs
    obtain ⟨cs⟩ := cs
    rw [hc] at hk
    match cs, hk with
    | [x, y], _ =>
      rw [size_types] at h
      obtain ⟨l, h1, rfl⟩ := Option.map_eq_some_iff.1 h
      obtain ⟨p, hp, rfl, rfl, rfl⟩ := lits_pair_inv 172 (x := x) (y := y) (by simpa [Value.cells] using h1)
      exact ⟨p, rfl, rfl, hp⟩
  · cases h
set_option maxRecDepth 100000 in
theorem pk_inj {p q : Int × Int} (hp : FitsPr p) (hq : FitsPr q) (h : pk p = pk q) : p = q := by
  have := lawP.inj (key_pair hp) (h ▸ key_pair hq)
  unfold pv at this
  simp only [Value.agg.injEq, Array.mk.injEq, List.cons.injEq, Value.int.injEq, true_and, and_true] at this
  exact Prod.ext this.1 this.2
set_option maxRecDepth 100000 in
theorem pk_key (p : Int × Int) : WideAt.IsKeyLit (pk p) := trivial
set_option maxRecDepth 100000 in
/-- 'm[k]' for writing, and the write: between the two the map holds at least what it held. -/
theorem entry_own {H : Type} {P : Program} {w : World} {t k e : TypeId} {R : Value → Option (DataW H × List MemPlace)} {b n : Nat} {D : DataW H} (h : w.ownsMap P k R b n D) (K : WideMaps.KeyLaw P k) (ht : P.underlying t = some (.map k e)) (hn : n < maxLen) {z : Value} (hz : ∀ u : World, (zeroValue e).run P u = .ok z u)
    {zd : DataW H} {zp : List MemPlace} (hzd : R z = some (zd, zp)) {key : Value} {kl : Lit} (hkey : keyOf P k key = some kl) :
    ∃ v0 st w2 D2, (Instr.mapEntry t (.map (some b)) key).run P w = .ok (.tuple #[v0, goInt st]) w2 ∧ w2.ownsMap P k R b (n + 1) D2 ∧ D2.atKey kl zd = D.atKey kl zd ∧ w.mapTurned w2 b ∧
      ∀ val d ps, R val = some (d, ps) → ∃ w3, (Instr.entryStore t (.map (some b)) (goInt st) val).run P w2 = .ok () w3 ∧ w3.ownsMap P k R b (n + 1) (D.put kl d) ∧ w.mapTurned w3 b := by
  have h0 := h
  obtain ⟨es, clock, hb, F, hs, rfl⟩ := h
  have hK := Keyed.of_law K
  obtain ⟨w', hu', ho', ht'⟩ := h0.store hK ht hn hkey hzd
  obtain ⟨v0, st, es1, clock1, h1, _, h3⟩ := WideElems.entry_then_store K ht hz hb F hkey
  refine ⟨v0, st, ChangeMaps.setBlock w b (.map es1 clock1), ?_⟩
  have hst : ∀ val d ps, R val = some (d, ps) → ∃ w3, (Instr.entryStore t (.map (some b)) (goInt st) val).run P (ChangeMaps.setBlock w b (.map es1 clock1)) = .ok () w3 ∧ w3.ownsMap P k R b (n + 1) ((DataW.map ((es.toList.map (WideElems.rg P k R)).foldr DataW.insert [])).put kl d) ∧ w.mapTurned w3 b := by
    intro val d ps hv
    obtain ⟨es', clock', r1, r2⟩ := h3 (ChangeMaps.setBlock w b (.map es1 clock1)) val (ChangeMaps.heap_setBlock_same hb _)
    obtain ⟨w3, q1, q2, q3⟩ := h0.store hK ht hn hkey hv
    rw [r2] at q1
    cases q1
    exact ⟨_, by rw [r1]; simp [ChangeMaps.setBlock], q2, q3⟩
  rcases K.find w hkey es.toList F.keys with ⟨f1, f2⟩ | ⟨j, e0, f1, f2, f3⟩
  · have m1 : (Instr.mapEntry t (.map (some b)) key).run P w = .ok (.tuple #[z, goInt clock]) (ChangeMaps.setBlock w b (.map (es.push ⟨key, z, clock⟩) (clock + 1))) := by
      simp [Instr.mapEntry, run_underlying ht, MapKept.run_getObj_map hb, K.check w false hkey, f1, hz, MapKept.run_setObj_map _ hb, Result.andThen, ChangeMaps.setBlock]
    have m2 : (Instr.mapUpdate t (.map (some b)) key z).run P w = .ok () (ChangeMaps.setBlock w b (.map (es.push ⟨key, z, clock⟩) (clock + 1))) := by
      simp [Instr.mapUpdate, run_underlying ht, MapKept.run_getObj_map hb, K.check w false hkey, f1, MapKept.run_setObj_map _ hb, Result.andThen, ChangeMaps.setBlock]
    have hw : ChangeMaps.setBlock w b (.map es1 clock1) = w' := by
      rw [m1] at h1
      rw [m2] at hu'
      injection h1 with _ e1
      injection hu' with _ e2
      rw [← e1, e2]
    refine ⟨_, h1, hw ▸ ho', ?_, hw ▸ ht', hst⟩
    rw [Maps.atKey_put_same h0.isMap (by obtain ⟨s, rfl⟩ := K.str hkey; trivial)]
    rcases Maps.fit_look false hK ht (hz w) hb F hkey with ⟨_, _, hat⟩ | ⟨e0, y, hm, he, _⟩
    · rw [hat]
    · exact absurd he (f2 e0 hm)
  · have hj : es[j]? = some e0 := by simpa using f2
    have hsame : es.modify j (fun e => { e with key := key }) = es := by
      apply Array.ext'
      rw [Array.toList_modify, ChangeMaps.modify_eq_set _ _ _ _ f2]
      have : ({ e0 with key := key } : MapEntry) = e0 := by rw [← f3]
      rw [this]
      exact WideElems.set_self _ _ _ f2
    have m1 : (Instr.mapEntry t (.map (some b)) key).run P w = .ok (.tuple #[e0.val, goInt e0.born]) (ChangeMaps.setBlock w b (.map es clock)) := by
      simp [Instr.mapEntry, run_underlying ht, MapKept.run_getObj_map hb, K.check w false hkey, f1, hj, f3, K.stays w hkey, hsame, MapKept.run_setObj_map _ hb, Result.andThen, ChangeMaps.setBlock]
    have hw : ChangeMaps.setBlock w b (.map es1 clock1) = ChangeMaps.setBlock w b (.map es clock) := by
      rw [m1] at h1
      injection h1 with _ e1
      exact e1.symm
    refine ⟨_, h1, hw ▸ ⟨es, clock, ChangeMaps.heap_setBlock_same hb _, F, by omega, rfl⟩, rfl, hw ▸ ⟨es, clock, es, clock, hb, rfl⟩, hst⟩
set_option maxRecDepth 100000 in
theorem pzero3 (w : World) : (zeroValue 3).run Tryz.prog w = .ok (.int .i64 0) w := by kernel_rfl
/-- Block b is a map that tells f p of each pair p; a pair with 0 isn't there. N: how often it was written at most. -/
def PMap (w : World) (b N : Nat) (f : Int × Int → Int) : Prop :=
  ∃ D : DataW Unit, w.ownsMap Tryz.prog 37 (plainElem Tryz.prog 3) b N D ∧ (∀ p, FitsPr p → D.atKey (pk p) (.lit (.int .i64 0)) = .lit (.int .i64 (f p)) ∧ Maps.has D (pk p) = decide (f p ≠ 0)) ∧ ∀ p, -(N : Int) ≤ f p ∧ f p ≤ (N : Int)
set_option maxRecDepth 100000 in
theorem PMap.kept {w w' : World} {b N : Nat} {f : Int × Int → Int} (h : PMap w b N f) (hk : w'.heap[b]? = w.heap[b]?) : PMap w' b N f := by
  obtain ⟨D, ⟨es, clock, hb, rest⟩, h1⟩ := h
  exact ⟨D, ⟨es, clock, hk.trans hb, rest⟩, h1⟩
set_option maxRecDepth 100000 in
theorem PMap.lt {w : World} {b N : Nat} {f : Int × Int → Int} (h : PMap w b N f) : b < w.heap.size := by
  obtain ⟨D, h0, _⟩ := h
  exact World.ownsMap.lt h0
set_option maxRecDepth 100000 in
theorem PMap.block {w : World} {b N : Nat} {f : Int × Int → Int} (h : PMap w b N f) : ∃ es clock, w.heap[b]? = some (.map es clock) := by
  obtain ⟨D, ⟨es, clock, hb, _⟩, _⟩ := h
  exact ⟨es, clock, hb⟩
def addP (f : Int × Int → Int) (p : Int × Int) (by' : Int) : Int × Int → Int := fun q => if q = p then f q + by' else f q
set_option maxRecDepth 100000 in
theorem turned_heap {w w' : World} {b : Nat} (h : w.mapTurned w' b) (k : Nat) (hk : k ≠ b) : w'.heap[k]? = w.heap[k]? := by
  obtain ⟨es, clock, es', clock', hb, rfl⟩ := h
  exact ChangeMaps.heap_setBlock_other hb _ hk
set_option maxRecDepth 100000 in
theorem turned_cell {w w' : World} {b : Nat} (h : w.mapTurned w' b) (a : Addr) (ha : a.block ≠ b) : w'.cell? a = w.cell? a := World.cell?_of_block (turned_heap h _ ha)
/-- What adding to a map does, step by step. -/
structure AddRuns (w : World) (b N : Nat) (f : Int × Int → Int) (p : Int × Int) (d : Int) (w2 w3 w4 : World) (v0 : Value) (st : Int) : Prop where
  look : (Instr.lookup 95 (.map (some b)) (pv p) false).run Tryz.prog w = .ok (.int .i64 (f p)) w
  entry : (Instr.mapEntry 95 (.map (some b)) (pv p)).run Tryz.prog w = .ok (.tuple #[v0, goInt st]) w2
  look2 : (Instr.lookup 95 (.map (some b)) (pv p) false).run Tryz.prog w2 = .ok (.int .i64 (f p)) w2
  store : (Instr.entryStore 95 (.map (some b)) (goInt st) (.int .i64 (f p + d))).run Tryz.prog w2 = .ok () w3
  look3 : (Instr.lookup 95 (.map (some b)) (pv p) false).run Tryz.prog w3 = .ok (.int .i64 (f p + d)) w3
  drop : ∀ ty, (Builtin.delete_ #[95, 37] ty #[.map (some b), pv p]).run Tryz.prog w3 = .ok (.tuple #[]) w4
  turn2 : w.mapTurned w2 b
  turn3 : w.mapTurned w3 b
  turn4 : w.mapTurned w4 b
  there : f p + d ≠ 0 → PMap w3 b (N + 1) (addP f p d)
  gone : f p + d = 0 → PMap w4 b (N + 1) (addP f p d)
set_option maxRecDepth 100000 in
theorem add_runs {w : World} {b N : Nat} {f : Int × Int → Int} (h : PMap w b N f) {p : Int × Int} (hp : FitsPr p) {d : Int} (hd : -1 ≤ d ∧ d ≤ 1) (hN : N ≤ 1000000) : ∃ w2 w3 w4 v0 st, AddRuns w b N f p d w2 w3 w4 v0 st := by
  obtain ⟨D, hown, hat, hb⟩ := h
  have hk := key_pair hp
  have hu := Tryz.underlying95
  have hf := hb p
  have hz : plainElem (H := Unit) Tryz.prog 3 (.int .i64 0) = some (.lit (.int .i64 0), []) := plainElem_int Tryz.underlying3 (by decide)
  have hv : plainElem (H := Unit) Tryz.prog 3 (.int .i64 (f p + d)) = some (.lit (.int .i64 (f p + d)), []) := plainElem_int Tryz.underlying3 (wfI (by omega))
  have hlook : ∀ {u : World} {n : Nat} {E : DataW Unit} {c : Int}, u.ownsMap Tryz.prog 37 (plainElem Tryz.prog 3) b n E → E.atKey (pk p) (.lit (.int .i64 0)) = .lit (.int .i64 c) → (Instr.lookup 95 (.map (some b)) (pv p) false).run Tryz.prog u = .ok (.int .i64 c) u := by
    intro u n E c ho he
    obtain ⟨c', hr, ha, _⟩ := World.ownsMap.lookup_int ho lawP hu Tryz.underlying3 (pzero3 u) hk
    rw [he] at ha
    cases ha
    exact hr
  obtain ⟨v0, st, w2, D2, h1, h2, h3, h4, h5⟩ := entry_own hown plaw hu (by unfold maxLen; omega) pzero3 hz hk
  obtain ⟨w3, s1, s2, s3⟩ := h5 _ _ _ hv
  obtain ⟨w4, r1, r2, r3⟩ := s2.drop lawP hu hk 0
  have hr4 : ∀ ty, (Builtin.delete_ #[95, 37] ty #[.map (some b), pv p]).run Tryz.prog w3 = .ok (.tuple #[]) w4 := by
    intro ty
    rw [← r1]
    rfl
  have hM := hown.isMap
  have ne : ∀ q, FitsPr q → q ≠ p → pk q ≠ pk p := fun q hq hne e => hne (pk_inj hq hp e)
  refine ⟨w2, w3, w4, v0, st, hlook hown (hat p hp).1, h1, hlook h2 (h3.trans (hat p hp).1), s1, hlook s2 (atKey_put_same hM (pk_key p) _ _), hr4, h4, s3, s3.trans r3, fun hne => ?_, fun he => ?_⟩
  · refine ⟨_, s2, fun q hq => ?_, fun q => ?_⟩
    · unfold addP
      by_cases e : q = p
      · subst e
        rw [if_pos rfl, atKey_put_same hM (pk_key _), has_put_same hM (pk_key _)]
        exact ⟨rfl, (decide_eq_true hne).symm⟩
      · rw [if_neg e, atKey_put_other (ne q hq e), has_put_other (ne q hq e)]
        exact hat q hq
    · unfold addP
      have := hb q
      split <;> omega
  · refine ⟨_, r2, fun q hq => ?_, fun q => ?_⟩
    · unfold addP
      by_cases e : q = p
      · subst e
        rw [if_pos rfl, he, atKey_del_same, has_del_same]
        exact ⟨rfl, rfl⟩
      · rw [if_neg e, atKey_del_other (ne q hq e), has_del_other (ne q hq e), atKey_put_other (ne q hq e), has_put_other (ne q hq e)]
        exact hat q hq
    · unfold addP
      have := hb q
      split <;> omega
set_option maxRecDepth 100000 in
theorem pmap_made (w : World) : PMap (w.alloc (.map #[] 0)) w.heap.size 0 (fun _ => 0) :=
  ⟨.map [], World.ownsMap_made w Tryz.prog 37 _, fun p _ => ⟨rfl, rfl⟩, fun _ => ⟨by simp, by simp⟩⟩
end Go.Proofs.YtejcemmhhpbchaaGreat
