/- A map of pairs to numbers. -/
import Derived.Test.YtbnekkcjkdghcaaElts
import Derived.Maps.RangeWalk
import Derived.Maps.OwnOps
import Derived.Maps.OwnSet
import Derived.WideKeyEntry
import Derived.DeepKeys4
import Derived.Lib.Hide
namespace Go.Proofs.Ytbnekkcjkdghcaa
open Go.RowKit Go.Maps Go.ChangeShapes Go.WideShapes

def FitsPr (p : Int × Int) : Prop := (-9223372036854775808 ≤ p.1 ∧ p.1 ≤ 9223372036854775807) ∧ (-9223372036854775808 ≤ p.2 ∧ p.2 ≤ 9223372036854775807)
def pv (p : Int × Int) : Value := .agg #[.int .i64 p.1, .int .i64 p.2]
def pk (p : Int × Int) : Lit := .string (keyBytes [.int .i64 p.1, .int .i64 p.2])
set_option maxRecDepth 100000 in
theorem Try.laid0 : laidOutB Try.prog = true := by kernel_rfl
set_option maxRecDepth 100000 in
theorem plaw : WideMaps.KeyLaw Try.prog 41 := deep_law_laid Try.laid0 (m := 2) (by omega) (of_decide_eq_true (by kernel_rfl)) (by kernel_rfl) (by rw [Try.underlying41])
set_option maxRecDepth 100000 in
theorem lawP : Keyed Try.prog 41 := Keyed.of_law plaw
set_option maxRecDepth 100000 in
theorem kt32 : Try.prog.keyType 41 = true := by kernel_rfl
set_option maxRecDepth 100000 in
theorem size_types : Try.prog.types.size + 1 = 129 + 1 + 1 := by kernel_rfl
set_option maxRecDepth 100000 in
theorem wfI {a : Int} (h : -9223372036854775808 ≤ a ∧ a ≤ 9223372036854775807) : (Lit.int .i64 a).wf = true := WalkArith.wf_i64 (by omega)
set_option maxRecDepth 100000 in
theorem lits_pair (d : Nat) {a b : Int} (ha : -9223372036854775808 ≤ a ∧ a ≤ 9223372036854775807) (hb : -9223372036854775808 ≤ b ∧ b ≤ 9223372036854775807) : Try.prog.keyLits (d + 1 + 1) 41 [.int .i64 a, .int .i64 b] = some [.int .i64 a, .int .i64 b] := by
  have h1 := wfI ha
  have h2 := wfI hb
  have hc : Try.prog.cellsOf 41 = 2 := by kernel_rfl
  have hc3 : Try.prog.cellsOf 3 = 1 := by kernel_rfl
  simp [Program.keyLits, Try.underlying41, Try.underlying3, hc, hc3, h1, h2]
set_option maxRecDepth 100000 in
theorem lits_pair_inv (d : Nat) {x y : Value} {l : List Lit} (h : Try.prog.keyLits (d + 1 + 1) 41 [x, y] = some l) : ∃ p, FitsPr p ∧ x = .int .i64 p.1 ∧ y = .int .i64 p.2 ∧ l = [.int .i64 p.1, .int .i64 p.2] := by
  have hc : Try.prog.cellsOf 41 = 2 := by kernel_rfl
  have hc3 : Try.prog.cellsOf 3 = 1 := by kernel_rfl
  have one : ∀ {v : Value} {m : List Lit}, Try.prog.keyLits (d + 1) 3 [v] = some m → ∃ a, (-9223372036854775808 ≤ a ∧ a ≤ 9223372036854775807) ∧ v = .int .i64 a ∧ m = [.int .i64 a] := by
    intro v m hm
    cases v <;> simp [Program.keyLits, Try.underlying3] at hm
    obtain ⟨⟨rfl, hw⟩, rfl⟩ := hm
    exact ⟨_, bounds_i64 hw, rfl, rfl⟩
  unfold Program.keyLits at h
  rw [Try.underlying41] at h
  simp only [hc, List.length_cons, List.length_nil] at h
  simp [hc3] at h
  cases h1 : Try.prog.keyLits (d + 1) 3 [x] with
  | none => rw [h1] at h; cases h
  | some m1 =>
    cases h2 : Try.prog.keyLits (d + 1) 3 [y] with
    | none => rw [h1, h2] at h; cases h
    | some m2 =>
      rw [h1, h2] at h
      obtain ⟨a, ha, rfl, rfl⟩ := one h1
      obtain ⟨b, hb, rfl, rfl⟩ := one h2
      exact ⟨(a, b), ⟨ha, hb⟩, rfl, rfl, by simpa using h.symm⟩
set_option maxRecDepth 100000 in
theorem key_pair {p : Int × Int} (h : FitsPr p) : keyOf Try.prog 41 (pv p) = some (pk p) := by
  have hc : Try.prog.cellsOf 41 = 2 := by kernel_rfl
  have hf : (pv p).formed Try.prog 41 = true := by simp [pv, Value.formed, Try.underlying41, hc]
  unfold keyOf
  rw [Try.underlying41]
  simp only [kt32, hf, Bool.and_self, if_true]
  rw [size_types]
  have e : (pv p).cells.toList = [.int .i64 p.1, .int .i64 p.2] := by simp [pv, Value.cells]
  rw [e, lits_pair _ h.1 h.2]
  rfl
set_option maxRecDepth 100000 in
theorem key_pair_inv {key : Value} {kl : Lit} (h : keyOf Try.prog 41 key = some kl) : ∃ p, key = pv p ∧ kl = pk p ∧ FitsPr p := by
  have hc : Try.prog.cellsOf 41 = 2 := by kernel_rfl
  have hc3 : Try.prog.cellsOf 3 = 1 := by kernel_rfl
  unfold keyOf at h
  rw [Try.underlying41] at h
  simp only at h
  split at h
  · rename_i hk
    rw [kt32, Bool.true_and] at hk
    cases key <;> simp [Value.formed, Try.underlying41] at hk
    rename_i cs
    obtain ⟨cs⟩ := cs
    rw [hc] at hk
    match cs, hk with
    | [x, y], _ =>
      rw [size_types] at h
      obtain ⟨l, h1, rfl⟩ := Option.map_eq_some_iff.1 h
      obtain ⟨p, hp, rfl, rfl, rfl⟩ := lits_pair_inv 129 (x := x) (y := y) (by simpa [Value.cells] using h1)
      exact ⟨p, rfl, rfl, hp⟩
  · cases h
set_option maxRecDepth 100000 in
theorem pk_inj {p q : Int × Int} (hp : FitsPr p) (hq : FitsPr q) (h : pk p = pk q) : p = q := by
  have := lawP.inj (key_pair hp) (h ▸ key_pair hq)
  unfold pv at this
  simp only [Value.agg.injEq, Array.mk.injEq, List.cons.injEq, Value.int.injEq, true_and, and_true] at this
  exact Prod.ext this.1 this.2
set_option maxRecDepth 100000 in
theorem pk_key (p : Int × Int) : WideAt.IsKeyLit (pk p) := trivial
set_option maxRecDepth 100000 in
/-- 'm[k]' for writing, and the write: between the two the map holds at least what it held. -/
theorem entry_own {H : Type} {P : Program} {w : World} {t k e : TypeId} {R : Value → Option (DataW H × List MemPlace)} {b n : Nat} {D : DataW H} (h : w.ownsMap P k R b n D) (K : WideMaps.KeyLaw P k) (ht : P.underlying t = some (.map k e)) (hn : n < maxLen) {z : Value} (hz : ∀ u : World, (zeroValue e).run P u = .ok z u)
    {zd : DataW H} {zp : List MemPlace} (hzd : R z = some (zd, zp)) {key : Value} {kl : Lit} (hkey : keyOf P k key = some kl) :
    ∃ v0 st w2 D2, (Instr.mapEntry t (.map (some b)) key).run P w = .ok (.tuple #[v0, goInt st]) w2 ∧ w2.ownsMap P k R b (n + 1) D2 ∧ D2.atKey kl zd = D.atKey kl zd ∧ w.mapTurned w2 b ∧
      ∀ val d ps, R val = some (d, ps) → ∃ w3, (Instr.entryStore t (.map (some b)) (goInt st) val).run P w2 = .ok () w3 ∧ w3.ownsMap P k R b (n + 1) (D.put kl d) ∧ w.mapTurned w3 b := by
  have h0 := h
  obtain ⟨es, clock, hb, F, hs, rfl⟩ := h
  have hK := Keyed.of_law K
  obtain ⟨w', hu', ho', ht'⟩ := h0.store hK ht hn hkey hzd
  obtain ⟨v0, st, es1, clock1, h1, _, h3⟩ := WideElems.entry_then_store K ht hz hb F hkey
  refine ⟨v0, st, ChangeMaps.setBlock w b (.map es1 clock1), ?_⟩
  have hst : ∀ val d ps, R val = some (d, ps) → ∃ w3, (Instr.entryStore t (.map (some b)) (goInt st) val).run P (ChangeMaps.setBlock w b (.map es1 clock1)) = .ok () w3 ∧ w3.ownsMap P k R b (n + 1) ((DataW.map ((es.toList.map (WideElems.rg P k R)).foldr DataW.insert [])).put kl d) ∧ w.mapTurned w3 b := by
    intro val d ps hv
    obtain ⟨es', clock', r1, r2⟩ := h3 (ChangeMaps.setBlock w b (.map es1 clock1)) val (ChangeMaps.heap_setBlock_same hb _)
    obtain ⟨w3, q1, q2, q3⟩ := h0.store hK ht hn hkey hv
    rw [r2] at q1
    cases q1
    exact ⟨_, by rw [r1]; simp [ChangeMaps.setBlock], q2, q3⟩
  rcases K.find w hkey es.toList F.keys with ⟨f1, f2⟩ | ⟨j, e0, f1, f2, f3⟩
  · have m1 : (Instr.mapEntry t (.map (some b)) key).run P w = .ok (.tuple #[z, goInt clock]) (ChangeMaps.setBlock w b (.map (es.push ⟨key, z, clock⟩) (clock + 1))) := by
      simp [Instr.mapEntry, run_underlying ht, MapKept.run_getObj_map hb, K.check w false hkey, f1, hz, MapKept.run_setObj_map _ hb, Result.andThen, ChangeMaps.setBlock]
    have m2 : (Instr.mapUpdate t (.map (some b)) key z).run P w = .ok () (ChangeMaps.setBlock w b (.map (es.push ⟨key, z, clock⟩) (clock + 1))) := by
      simp [Instr.mapUpdate, run_underlying ht, MapKept.run_getObj_map hb, K.check w false hkey, f1, MapKept.run_setObj_map _ hb, Result.andThen, ChangeMaps.setBlock]
    have hw : ChangeMaps.setBlock w b (.map es1 clock1) = w' := by
      rw [m1] at h1
      rw [m2] at hu'
      injection h1 with _ e1
      injection hu' with _ e2
      rw [← e1, e2]
    refine ⟨_, h1, hw ▸ ho', ?_, hw ▸ ht', hst⟩
    rw [Maps.atKey_put_same h0.isMap (by obtain ⟨s, rfl⟩ := K.str hkey; trivial)]
    rcases Maps.fit_look false hK ht (hz w) hb F hkey with ⟨_, _, hat⟩ | ⟨e0, y, hm, he, _⟩
    · rw [hat]
    · exact absurd he (f2 e0 hm)
  · have hj : es[j]? = some e0 := by simpa using f2
    have hsame : es.modify j (fun e => { e with key := key }) = es := by
      apply Array.ext'
      rw [Array.toList_modify, ChangeMaps.modify_eq_set _ _ _ _ f2]
      have : ({ e0 with key := key } : MapEntry) = e0 := by rw [← f3]
      rw [this]
      exact WideElems.set_self _ _ _ f2
    have m1 : (Instr.mapEntry t (.map (some b)) key).run P w = .ok (.tuple #[e0.val, goInt e0.born]) (ChangeMaps.setBlock w b (.map es clock)) := by
      simp [Instr.mapEntry, run_underlying ht, MapKept.run_getObj_map hb, K.check w false hkey, f1, hj, f3, K.stays w hkey, hsame, MapKept.run_setObj_map _ hb, Result.andThen, ChangeMaps.setBlock]
    have hw : ChangeMaps.setBlock w b (.map es1 clock1) = ChangeMaps.setBlock w b (.map es clock) := by
      rw [m1] at h1
      injection h1 with _ e1
      exact e1.symm
    refine ⟨_, h1, hw ▸ ⟨es, clock, ChangeMaps.heap_setBlock_same hb _, F, by omega, rfl⟩, rfl, hw ▸ ⟨es, clock, es, clock, hb, rfl⟩, hst⟩
set_option maxRecDepth 100000 in
theorem pzero3 (w : World) : (zeroValue 3).run Try.prog w = .ok (.int .i64 0) w := by kernel_rfl
/-- Block b is a map that tells f p of each pair p; a pair with 0 isn't there. N: how often it was written at most. -/
def PMap (w : World) (b N : Nat) (f : Int × Int → Int) : Prop :=
  ∃ D : DataW Unit, w.ownsMap Try.prog 41 (plainElem Try.prog 3) b N D ∧ (∀ p, FitsPr p → D.atKey (pk p) (.lit (.int .i64 0)) = .lit (.int .i64 (f p)) ∧ Maps.has D (pk p) = decide (f p ≠ 0)) ∧ ∀ p, -(N : Int) ≤ f p ∧ f p ≤ (N : Int)
set_option maxRecDepth 100000 in
theorem PMap.kept {w w' : World} {b N : Nat} {f : Int × Int → Int} (h : PMap w b N f) (hk : w'.heap[b]? = w.heap[b]?) : PMap w' b N f := by
  obtain ⟨D, ⟨es, clock, hb, rest⟩, h1⟩ := h
  exact ⟨D, ⟨es, clock, hk.trans hb, rest⟩, h1⟩
set_option maxRecDepth 100000 in
theorem PMap.lt {w : World} {b N : Nat} {f : Int × Int → Int} (h : PMap w b N f) : b < w.heap.size := by
  obtain ⟨D, h0, _⟩ := h
  exact World.ownsMap.lt h0
set_option maxRecDepth 100000 in
theorem PMap.block {w : World} {b N : Nat} {f : Int × Int → Int} (h : PMap w b N f) : ∃ es clock, w.heap[b]? = some (.map es clock) := by
  obtain ⟨D, ⟨es, clock, hb, _⟩, _⟩ := h
  exact ⟨es, clock, hb⟩
def addP (f : Int × Int → Int) (p : Int × Int) (by' : Int) : Int × Int → Int := fun q => if q = p then f q + by' else f q
set_option maxRecDepth 100000 in
theorem turned_heap {w w' : World} {b : Nat} (h : w.mapTurned w' b) (k : Nat) (hk : k ≠ b) : w'.heap[k]? = w.heap[k]? := by
  obtain ⟨es, clock, es', clock', hb, rfl⟩ := h
  exact ChangeMaps.heap_setBlock_other hb _ hk
set_option maxRecDepth 100000 in
theorem turned_cell {w w' : World} {b : Nat} (h : w.mapTurned w' b) (a : Addr) (ha : a.block ≠ b) : w'.cell? a = w.cell? a := World.cell?_of_block (turned_heap h _ ha)
set_option maxRecDepth 100000 in
theorem pmap_made (w : World) : PMap (w.alloc (.map #[] 0)) w.heap.size 0 (fun _ => 0) :=
  ⟨.map [], World.ownsMap_made w Try.prog 41 _, fun p _ => ⟨rfl, rfl⟩, fun _ => ⟨by simp, by simp⟩⟩
end Go.Proofs.Ytbnekkcjkdghcaa
