/- A map of couples of texts to numbers. -/
import Derived.Test.YtbacbgpemaldbaaNvB
import Derived.Maps.RangeWalk
import Derived.Maps.OwnOps
import Derived.Maps.OwnSet
import Derived.WideKeyEntry
import Derived.DeepKeys4
import Derived.Lib.Hide
import Derived.Laws.IdiomRangeMap
namespace Go.Proofs.Ytbacbgpemaldbaa
open Go.RowKit Go.Maps Go.ChangeShapes Go.WideShapes

def FitsM (m : Mg) : Prop := m.1.size ≤ maxLen ∧ m.2.size ≤ maxLen
def kv (m : Mg) : Value := .agg #[.string m.1, .string m.2]
def kk (m : Mg) : Lit := .string (keyBytes [.string m.1.data.toList, .string m.2.data.toList])
set_option maxRecDepth 100000 in
theorem np_laid : laidOutB Try.prog = true := by kernel_rfl
set_option maxRecDepth 100000 in
theorem klaw : WideMaps.KeyLaw Try.prog 54 := deep_law_laid np_laid (m := 2) (by omega) (of_decide_eq_true (by kernel_rfl)) (by kernel_rfl) (by rw [Try.underlying54])
set_option maxRecDepth 100000 in
theorem lawK : Keyed Try.prog 54 := Keyed.of_law klaw
set_option maxRecDepth 100000 in
theorem ktK : Try.prog.keyType 54 = true := by kernel_rfl
set_option maxRecDepth 100000 in
theorem np_types : Try.prog.types.size + 1 = 91 + 1 + 1 := by kernel_rfl
set_option maxRecDepth 100000 in
theorem np_cells : Try.prog.cellsOf 54 = 2 := by kernel_rfl
set_option maxRecDepth 100000 in
theorem np_cells9 : Try.prog.cellsOf 9 = 1 := by kernel_rfl
set_option maxRecDepth 100000 in
theorem lits_couple (d : Nat) {a b : ByteArray} (ha : a.size ≤ maxLen) (hb : b.size ≤ maxLen) : Try.prog.keyLits (d + 1 + 1) 54 [.string a, .string b] = some [.string a.data.toList, .string b.data.toList] := by
  have r2 : List.range 2 = [0, 1] := by decide
  simp [Program.keyLits, Try.underlying54, Try.underlying9, np_cells, np_cells9, ha, hb, r2]
set_option maxRecDepth 100000 in
theorem lits_couple_inv (d : Nat) {x y : Value} {l : List Lit} (h : Try.prog.keyLits (d + 1 + 1) 54 [x, y] = some l) : ∃ p : Mg, FitsM p ∧ x = .string p.1 ∧ y = .string p.2 ∧ l = [.string p.1.data.toList, .string p.2.data.toList] := by
  have one : ∀ {v : Value} {m : List Lit}, Try.prog.keyLits (d + 1) 9 [v] = some m → ∃ a : ByteArray, a.size ≤ maxLen ∧ v = .string a ∧ m = [.string a.data.toList] := by
    intro v m hm
    cases v <;> simp [Program.keyLits, Try.underlying9] at hm
    obtain ⟨hw, rfl⟩ := hm
    exact ⟨_, hw, rfl, rfl⟩
  have r2 : List.range 2 = [0, 1] := by decide
  unfold Program.keyLits at h
  rw [Try.underlying54] at h
  simp only [np_cells, List.length_cons, List.length_nil] at h
  simp [np_cells9, r2] at h
  cases h1 : Try.prog.keyLits (d + 1) 9 [x] with
  | none => rw [h1] at h; simp at h
  | some m1 =>
    cases h2 : Try.prog.keyLits (d + 1) 9 [y] with
    | none => rw [h1, h2] at h; simp at h
    | some m2 =>
      rw [h1, h2] at h
      obtain ⟨a, ha, rfl, rfl⟩ := one h1
      obtain ⟨b, hb, rfl, rfl⟩ := one h2
      exact ⟨(a, b), ⟨ha, hb⟩, rfl, rfl, by simpa using h.symm⟩
set_option maxRecDepth 100000 in
theorem key_couple {p : Mg} (h : FitsM p) : keyOf Try.prog 54 (kv p) = some (kk p) := by
  have hf : (kv p).formed Try.prog 54 = true := by simp [kv, Value.formed, Try.underlying54, np_cells]
  unfold keyOf
  rw [Try.underlying54]
  simp only [ktK, hf, Bool.and_self, if_true]
  rw [np_types]
  have e : (kv p).cells.toList = [.string p.1, .string p.2] := by simp [kv, Value.cells]
  rw [e, lits_couple _ h.1 h.2]
  rfl
set_option maxRecDepth 100000 in
theorem key_couple_inv {key : Value} {kl : Lit} (h : keyOf Try.prog 54 key = some kl) : ∃ p, key = kv p ∧ kl = kk p ∧ FitsM p := by
  unfold keyOf at h
  rw [Try.underlying54] at h
  simp only at h
  split at h
  · rename_i hk
    rw [ktK, Bool.true_and] at hk
    cases key <;> simp [Value.formed, Try.underlying54] at hk
    rename_i cs
    obtain ⟨cs⟩ := cs
    rw [np_cells] at hk
    match cs, hk with
    | [x, y], _ =>
      rw [np_types] at h
      obtain ⟨l, h1, rfl⟩ := Option.map_eq_some_iff.1 h
      obtain ⟨p, hp, rfl, rfl, rfl⟩ := lits_couple_inv 91 (x := x) (y := y) (by simpa [Value.cells] using h1)
      exact ⟨p, rfl, rfl, hp⟩
  · cases h
set_option maxRecDepth 100000 in
theorem kv_inj {p q : Mg} (h : kv p = kv q) : p = q := by
  unfold kv at h
  simp only [Value.agg.injEq, Array.mk.injEq, List.cons.injEq, Value.string.injEq, and_true] at h
  exact Prod.ext h.1 h.2
set_option maxRecDepth 100000 in
theorem kk_inj {p q : Mg} (hp : FitsM p) (hq : FitsM q) (h : kk p = kk q) : p = q := kv_inj (lawK.inj (key_couple hp) (h ▸ key_couple hq))
set_option maxRecDepth 100000 in
theorem kk_key (p : Mg) : WideAt.IsKeyLit (kk p) := trivial
set_option maxRecDepth 100000 in
/-- 'm[k]' for writing, and the write: between the two the map holds at least what it held. -/
theorem np_entry {H : Type} {P : Program} {w : World} {t k e : TypeId} {R : Value → Option (DataW H × List MemPlace)} {b n : Nat} {D : DataW H} (h : w.ownsMap P k R b n D) (K : WideMaps.KeyLaw P k) (ht : P.underlying t = some (.map k e)) (hn : n < maxLen) {z : Value} (hz : ∀ u : World, (zeroValue e).run P u = .ok z u)
    {zd : DataW H} {zp : List MemPlace} (hzd : R z = some (zd, zp)) {key : Value} {kl : Lit} (hkey : keyOf P k key = some kl) :
    ∃ v0 st w2 D2, (Instr.mapEntry t (.map (some b)) key).run P w = .ok (.tuple #[v0, goInt st]) w2 ∧ w2.ownsMap P k R b (n + 1) D2 ∧ D2.atKey kl zd = D.atKey kl zd ∧ w.mapTurned w2 b ∧
      ∀ val d ps, R val = some (d, ps) → ∃ w3, (Instr.entryStore t (.map (some b)) (goInt st) val).run P w2 = .ok () w3 ∧ w3.ownsMap P k R b (n + 1) (D.put kl d) ∧ w.mapTurned w3 b := by
  have h0 := h
  obtain ⟨es, clock, hb, F, hs, rfl⟩ := h
  have hK := Keyed.of_law K
  obtain ⟨w', hu', ho', ht'⟩ := h0.store hK ht hn hkey hzd
  obtain ⟨v0, st, es1, clock1, h1, _, h3⟩ := WideElems.entry_then_store K ht hz hb F hkey
  refine ⟨v0, st, ChangeMaps.setBlock w b (.map es1 clock1), ?_⟩
  have hst : ∀ val d ps, R val = some (d, ps) → ∃ w3, (Instr.entryStore t (.map (some b)) (goInt st) val).run P (ChangeMaps.setBlock w b (.map es1 clock1)) = .ok () w3 ∧ w3.ownsMap P k R b (n + 1) ((DataW.map ((es.toList.map (WideElems.rg P k R)).foldr DataW.insert [])).put kl d) ∧ w.mapTurned w3 b := by
    intro val d ps hv
    obtain ⟨es', clock', r1, r2⟩ := h3 (ChangeMaps.setBlock w b (.map es1 clock1)) val (ChangeMaps.heap_setBlock_same hb _)
    obtain ⟨w3, q1, q2, q3⟩ := h0.store hK ht hn hkey hv
    rw [r2] at q1
    cases q1
    exact ⟨_, by rw [r1]; simp [ChangeMaps.setBlock], q2, q3⟩
  rcases K.find w hkey es.toList F.keys with ⟨f1, f2⟩ | ⟨j, e0, f1, f2, f3⟩
  · have m1 : (Instr.mapEntry t (.map (some b)) key).run P w = .ok (.tuple #[z, goInt clock]) (ChangeMaps.setBlock w b (.map (es.push ⟨key, z, clock⟩) (clock + 1))) := by
      simp [Instr.mapEntry, run_underlying ht, MapKept.run_getObj_map hb, K.check w false hkey, f1, hz, MapKept.run_setObj_map _ hb, Result.andThen, ChangeMaps.setBlock]
    have m2 : (Instr.mapUpdate t (.map (some b)) key z).run P w = .ok () (ChangeMaps.setBlock w b (.map (es.push ⟨key, z, clock⟩) (clock + 1))) := by
      simp [Instr.mapUpdate, run_underlying ht, MapKept.run_getObj_map hb, K.check w false hkey, f1, MapKept.run_setObj_map _ hb, Result.andThen, ChangeMaps.setBlock]
    have hw : ChangeMaps.setBlock w b (.map es1 clock1) = w' := by
      rw [m1] at h1
      rw [m2] at hu'
      injection h1 with _ e1
      injection hu' with _ e2
      rw [← e1, e2]
    refine ⟨_, h1, hw ▸ ho', ?_, hw ▸ ht', hst⟩
    rw [Maps.atKey_put_same h0.isMap (by obtain ⟨s, rfl⟩ := K.str hkey; trivial)]
    rcases Maps.fit_look false hK ht (hz w) hb F hkey with ⟨_, _, hat⟩ | ⟨e0, y, hm, he, _⟩
    · rw [hat]
    · exact absurd he (f2 e0 hm)
  · have hj : es[j]? = some e0 := by simpa using f2
    have hsame : es.modify j (fun e => { e with key := key }) = es := by
      apply Array.ext'
      rw [Array.toList_modify, ChangeMaps.modify_eq_set _ _ _ _ f2]
      have : ({ e0 with key := key } : MapEntry) = e0 := by rw [← f3]
      rw [this]
      exact WideElems.set_self _ _ _ f2
    have m1 : (Instr.mapEntry t (.map (some b)) key).run P w = .ok (.tuple #[e0.val, goInt e0.born]) (ChangeMaps.setBlock w b (.map es clock)) := by
      simp [Instr.mapEntry, run_underlying ht, MapKept.run_getObj_map hb, K.check w false hkey, f1, hj, f3, K.stays w hkey, hsame, MapKept.run_setObj_map _ hb, Result.andThen, ChangeMaps.setBlock]
    have hw : ChangeMaps.setBlock w b (.map es1 clock1) = ChangeMaps.setBlock w b (.map es clock) := by
      rw [m1] at h1
      injection h1 with _ e1
      exact e1.symm
    refine ⟨_, h1, hw ▸ ⟨es, clock, ChangeMaps.heap_setBlock_same hb _, F, by omega, rfl⟩, rfl, hw ▸ ⟨es, clock, es, clock, hb, rfl⟩, hst⟩
set_option maxRecDepth 100000 in
theorem np_zero (w : World) : (zeroValue 3).run Try.prog w = .ok (.int .i64 0) w := by kernel_rfl
/-- Block b is a map that tells f m of each couple m; one with 0 isn't there. N: how often it was written at most. -/
def CoMap (w : World) (b N : Nat) (f : Mg → Int) : Prop :=
  ∃ D : DataW Unit, w.ownsMap Try.prog 54 (plainElem Try.prog 3) b N D ∧ (∀ p, FitsM p → D.atKey (kk p) (.lit (.int .i64 0)) = .lit (.int .i64 (f p)) ∧ Maps.has D (kk p) = decide (f p ≠ 0)) ∧ ∀ p, 0 ≤ f p
set_option maxRecDepth 100000 in
theorem CoMap.kept {w w' : World} {b N : Nat} {f : Mg → Int} (h : CoMap w b N f) (hk : w'.heap[b]? = w.heap[b]?) : CoMap w' b N f := by
  obtain ⟨D, ⟨es, clock, hb, rest⟩, h1⟩ := h
  exact ⟨D, ⟨es, clock, hk.trans hb, rest⟩, h1⟩
set_option maxRecDepth 100000 in
theorem CoMap.lt {w : World} {b N : Nat} {f : Mg → Int} (h : CoMap w b N f) : b < w.heap.size := by
  obtain ⟨D, h0, _⟩ := h
  exact World.ownsMap.lt h0
def addM (f : Mg → Int) (p : Mg) (c : Int) : Mg → Int := fun q => if q = p then f q + c else f q
set_option maxRecDepth 100000 in
theorem np_turned {w w' : World} {b : Nat} (h : w.mapTurned w' b) (k : Nat) (hk : k ≠ b) : w'.heap[k]? = w.heap[k]? := by
  obtain ⟨es, clock, es', clock', hb, rfl⟩ := h
  exact ChangeMaps.heap_setBlock_other hb _ hk
set_option maxRecDepth 100000 in
theorem np_turned_cell {w w' : World} {b : Nat} (h : w.mapTurned w' b) (a : Addr) (ha : a.block ≠ b) : w'.cell? a = w.cell? a := World.cell?_of_block (np_turned h _ ha)
/-- What adding to a map does, step by step. -/
structure CoRuns (w : World) (b N : Nat) (f : Mg → Int) (p : Mg) (d : Int) (w2 w3 : World) (v0 : Value) (st : Int) : Prop where
  look : (Instr.lookup 55 (.map (some b)) (kv p) false).run Try.prog w = .ok (.int .i64 (f p)) w
  entry : (Instr.mapEntry 55 (.map (some b)) (kv p)).run Try.prog w = .ok (.tuple #[v0, goInt st]) w2
  look2 : (Instr.lookup 55 (.map (some b)) (kv p) false).run Try.prog w2 = .ok (.int .i64 (f p)) w2
  store : (Instr.entryStore 55 (.map (some b)) (goInt st) (.int .i64 (f p + d))).run Try.prog w2 = .ok () w3
  turn2 : w.mapTurned w2 b
  turn3 : w.mapTurned w3 b
  there : CoMap w3 b (N + 1) (addM f p d)
set_option maxRecDepth 100000 in
theorem co_runs {w : World} {b N : Nat} {f : Mg → Int} (h : CoMap w b N f) {p : Mg} (hp : FitsM p) {d : Int} (hd : 1 ≤ d) (hx : f p + d ≤ 9223372036854775807) (hN : N ≤ 1000000) : ∃ w2 w3 v0 st, CoRuns w b N f p d w2 w3 v0 st := by
  obtain ⟨D, hown, hat, hb⟩ := h
  have hk := key_couple hp
  have hu := Try.underlying55
  have hf := hb p
  have hz : plainElem (H := Unit) Try.prog 3 (.int .i64 0) = some (.lit (.int .i64 0), []) := plainElem_int Try.underlying3 (by decide)
  have hv : plainElem (H := Unit) Try.prog 3 (.int .i64 (f p + d)) = some (.lit (.int .i64 (f p + d)), []) := plainElem_int Try.underlying3 (WalkArith.wf_i64 (by omega))
  have hlook : ∀ {u : World} {n : Nat} {E : DataW Unit} {c : Int}, u.ownsMap Try.prog 54 (plainElem Try.prog 3) b n E → E.atKey (kk p) (.lit (.int .i64 0)) = .lit (.int .i64 c) → (Instr.lookup 55 (.map (some b)) (kv p) false).run Try.prog u = .ok (.int .i64 c) u := by
    intro u n E c ho he
    obtain ⟨c', hr, ha, _⟩ := World.ownsMap.lookup_int ho lawK hu Try.underlying3 (np_zero u) hk
    rw [he] at ha
    cases ha
    exact hr
  obtain ⟨v0, st, w2, D2, h1, h2, h3, h4, h5⟩ := np_entry hown klaw hu (by unfold maxLen; omega) np_zero hz hk
  obtain ⟨w3, s1, s2, s3⟩ := h5 _ _ _ hv
  have hM := hown.isMap
  have ne : ∀ q, FitsM q → q ≠ p → kk q ≠ kk p := fun q hq hne e => hne (kk_inj hq hp e)
  refine ⟨w2, w3, v0, st, hlook hown (hat p hp).1, h1, hlook h2 (h3.trans (hat p hp).1), s1, h4, s3, ⟨_, s2, fun q hq => ?_, fun q => ?_⟩⟩
  · unfold addM
    by_cases e : q = p
    · subst e
      rw [if_pos rfl, atKey_put_same hM (kk_key _), has_put_same hM (kk_key _)]
      exact ⟨rfl, (decide_eq_true (by omega)).symm⟩
    · rw [if_neg e, atKey_put_other (ne q hq e), has_put_other (ne q hq e)]
      exact hat q hq
  · unfold addM
    have := hb q
    split <;> omega
set_option maxRecDepth 100000 in
theorem comap_made (w : World) : CoMap (w.alloc (.map #[] 0)) w.heap.size 0 (fun _ => 0) :=
  ⟨.map [], World.ownsMap_made w Try.prog 54 _, fun p _ => ⟨rfl, rfl⟩, fun _ => by simp⟩
set_option maxRecDepth 100000 in
/-- A range's step over a map of couples. -/
theorem wpList_next_couples (w : World) {ops : Array Oper} {rest : List Oper} {o : Oper} {a : Act} {Q : Exit → Act → World → Prop} (hg : o.guard = none) (it : Operand) (hop : o.op = Op.next it false) (D : DataW Unit) (b r n : Nat) (left : Lit → Bool) (cnt : Nat)
    (hit : a.eval it = .pointer (some ⟨r, 0, none⟩)) (h : w.ranges Try.prog 54 (plainElem Try.prog 3) b r n D left cnt)
    (hDone : cnt = 0 → (∀ kl, left kl = false) → wpList Try.prog ops Q rest (a.put o.dst (.tuple #[.bool false])) w)
    (hMore : ∀ (s t : ByteArray) (c : Int) (w' : World) (cnt' : Nat), FitsM (s, t) → left (kk (s, t)) = true → (∀ zd, D.atKey (kk (s, t)) zd = .lit (.int .i64 c)) → w'.ranges Try.prog 54 (plainElem Try.prog 3) b r n D (fun z => left z && !z.sameKey (kk (s, t))) cnt' → cnt' < cnt →
      w.grownBy w' (some r) → (Instr.entry (.pointer (some ⟨r, 0, none⟩))).run Try.prog w' = .ok (.tuple #[.agg #[.string s, .string t], .int .i64 c]) w' → wpList Try.prog ops Q rest (a.put o.dst (.tuple #[.bool true, .agg #[.string s, .string t], .int .i64 c])) w') :
    wpList Try.prog ops Q (o :: rest) a w :=
  wpList_next_ranges w hg it hop 54 lawK (plainElem Try.prog 3) kv (Value.int .i64) (fun key kl hkey => by obtain ⟨p, rfl, _⟩ := key_couple_inv hkey; exact ⟨p, rfl⟩) (fun v y hv => by obtain ⟨c, rfl, _⟩ := plainElem_int_inv Try.underlying3 hv; exact ⟨c, rfl⟩)
    b r n D left cnt hit h hDone (fun x c kl y w' cnt' hkey hlk hv hat hrg hlt hgr hsz hen => by
      obtain ⟨p, ex, rfl, hp⟩ := key_couple_inv hkey
      obtain ⟨c', ec, rfl, hwc⟩ := plainElem_int_inv Try.underlying3 hv
      cases ec
      obtain rfl : x = p := kv_inj ex
      exact hMore x.1 x.2 c w' cnt' hp hlk hat hrg hlt hgr hen)
end Go.Proofs.Ytbacbgpemaldbaa
