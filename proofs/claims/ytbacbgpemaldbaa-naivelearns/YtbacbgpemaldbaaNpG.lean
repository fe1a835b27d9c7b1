/- Rows of rows in a block that is written place by place. -/
import Derived.Test.YtbacbgpemaldbaaNvL
namespace Go.Proofs.Ytbacbgpemaldbaa
open Go.RowKit

/-- A row that is filled up to place k. -/
def npfill {α : Type} (z : α) (Z : List α) (k : Nat) : List α := Z.take k ++ List.replicate (Z.length - k) z
set_option maxRecDepth 100000 in
theorem npfill_len {α : Type} {z : α} {Z : List α} {k : Nat} (hk : k ≤ Z.length) : (npfill z Z k).length = Z.length := by
  unfold npfill; rw [List.length_append, List.length_take, List.length_replicate]; omega
set_option maxRecDepth 100000 in
theorem npfill_zero {α : Type} (z : α) (Z : List α) : npfill z Z 0 = List.replicate Z.length z := by simp [npfill]
set_option maxRecDepth 100000 in
theorem npfill_all {α : Type} (z : α) (Z : List α) : npfill z Z Z.length = Z := by simp [npfill]
set_option maxRecDepth 100000 in
theorem npfill_at {α : Type} {z : α} {Z : List α} {k : Nat} (hk : k < Z.length) (h : k < (npfill z Z k).length) : (npfill z Z k)[k] = z := by
  simp only [npfill]
  rw [List.getElem_append_right (by rw [List.length_take]; omega)]
  simp
set_option maxRecDepth 100000 in
theorem npfill_step {α : Type} {z : α} {Z : List α} {k : Nat} (hk : k < Z.length) : (npfill z Z k).set k Z[k] = npfill z Z (k + 1) := by
  unfold npfill
  have e : Z.length - k = (Z.length - (k + 1)) + 1 := by omega
  have hl : (Z.take k).length = k := by rw [List.length_take]; omega
  rw [e, List.replicate_succ, List.set_append_right _ _ (by omega), hl, Nat.sub_self, List.set_cons_zero]
  have e2 : Z.take (k + 1) = Z.take k ++ [Z[k]] := List.take_succ_eq_append_getElem hk
  rw [e2, List.append_assoc]
  rfl
set_option maxRecDepth 100000 in
/-- A store at a place of a row of elements of one cell. -/
theorem rowE.put {α : Type} {R : Elt α} {w : World} {g j : Nat} {L : List α} {u : Value} (h : rowE R w g L) (y : α) (hj : j < L.length) (hn : R.n = 1) (hy : R.enc y = [u]) : rowE R (w.setCell ⟨g, j, none⟩ u) g (L.set j y) := by
  have h1 := R.len L[j]
  have h2 : R.enc y = (R.enc L[j]).set 0 u := by
    rw [hn] at h1
    obtain ⟨c, hc⟩ := List.length_eq_one_iff.1 h1
    rw [hc, hy]
    rfl
  have := h.store (i := 0) y hj (by omega) h2
  rw [hn, Nat.mul_one, Nat.add_zero] at this
  exact this
set_option maxRecDepth 100000 in
theorem rowE.cell {α : Type} {R : Elt α} {w : World} {g j : Nat} {L : List α} {u : Value} (h : rowE R w g L) (hj : j < L.length) (hn : R.n = 1) (hy : R.enc L[j] = [u]) : w.cell? ⟨g, j, none⟩ = some u ∧ w.frozen? ⟨g, j, none⟩ = false := by
  have := h.cells (i := 0) hj (by omega)
  rw [hn, Nat.mul_one, Nat.add_zero, hy] at this
  exact this
/-- Block g is a row of rows of texts, each of the call's own from base on. -/
def rowsG (w : World) (base g : Nat) (WW : List (List ByteArray)) : Prop := base ≤ g ∧ ∃ E : List Hs, E.length = WW.length ∧ rowE slTE w g E ∧ ∀ i (h : i < E.length) (h' : i < WW.length), ownE textE w base (hsV E[i]) WW[i]
variable {w w' : World} {base g : Nat} {WW : List (List ByteArray)}
set_option maxRecDepth 100000 in
theorem rowsG.lt (h : rowsG w base g WW) : g < w.heap.size := by obtain ⟨_, E, _, h2, _⟩ := h; exact h2.lt
set_option maxRecDepth 100000 in
theorem rowsG.below (h : rowsG w base g WW) (hb : Below w.heap.size w w') : rowsG w' base g WW := by
  obtain ⟨h0, E, h1, h2, h3⟩ := h
  exact ⟨h0, E, h1, h2.kept (hb.block g h2.lt), fun i a b => (h3 i a b).below hb⟩
set_option maxRecDepth 100000 in
theorem rowsG.reads (h : rowsG w base g WW) (hl : WW.length ≤ maxLen) : rowsT w (.slice (some ⟨g, 0, none⟩) WW.length WW.length) WW := by
  obtain ⟨h0, E, h1, h2, h3⟩ := h
  have h4 := (h2.own h0 (by omega)).reads
  rw [h1] at h4
  exact ⟨E, h1, h4, fun i a b => ⟨(h3 i a b).reads, (h3 i a b).nilNone⟩⟩
set_option maxRecDepth 100000 in
/-- What turns a block of another type alone. -/
theorem rowsG.kept (h : rowsG w base g WW) (hk : ∀ (j : Nat) (cs : Array Value) (t : TypeId), w.heap[j]? = some (Obj.cells cs t (0, 0)) → t = slTE.ty ∨ t = textE.ty → w'.heap[j]? = w.heap[j]?) : rowsG w' base g WW := by
  obtain ⟨h0, E, h1, h2, h3⟩ := h
  obtain ⟨cs, hc, _⟩ := id h2
  exact ⟨h0, E, h1, h2.kept (hk g cs _ hc (.inl rfl)), fun i a b => (h3 i a b).kept fun j hj => by
    obtain ⟨c, hc⟩ := (h3 i a b).block j hj
    exact hk j c _ hc (.inr rfl)⟩
set_option maxRecDepth 100000 in
theorem rowsG.put (h : rowsG w base g WW) {i : Nat} (hi : i < WW.length) {ra : Option Addr} {rc : Nat} {X : List ByteArray} (hx : ownE textE w base (.slice ra X.length rc) X) : rowsG (w.setCell ⟨g, i, none⟩ (.slice ra X.length rc)) base g (WW.set i X) := by
  obtain ⟨h0, E, h1, h2, h3⟩ := h
  obtain ⟨cs, hc, _⟩ := id h2
  have kp : ∀ {v : Value} {A : List ByteArray}, ownE textE w base v A → ownE textE (w.setCell ⟨g, i, none⟩ (.slice ra X.length rc)) base v A := fun h => h.kept fun j hj => Below.heap_setCell _ ⟨g, i, none⟩ _ j fun e => by
    obtain ⟨c, hc2⟩ := h.block j hj
    rw [show j = g from e, hc] at hc2
    injection hc2 with hc2
    injection hc2 with _ hc2
    exact absurd hc2 (by decide)
  refine ⟨h0, E.set i (ra, X.length, rc), by simp [h1], h2.put (ra, X.length, rc) (by omega) rfl rfl, fun j a b => ?_⟩
  by_cases e : i = j
  · subst e
    rw [List.getElem_set_self, List.getElem_set_self]
    exact kp hx
  · rw [List.getElem_set_ne e, List.getElem_set_ne e]
    exact kp (h3 j (by simpa using a) (by simpa using b))
set_option maxRecDepth 100000 in
theorem rowsG.cell (h : rowsG w base g WW) {i : Nat} (hi : i < WW.length) : (∃ v, w.cell? ⟨g, i, none⟩ = some v) ∧ w.frozen? ⟨g, i, none⟩ = false := by
  obtain ⟨h0, E, h1, h2, h3⟩ := h
  obtain ⟨a, b⟩ := h2.cell (j := i) (by omega) rfl rfl
  exact ⟨⟨_, a⟩, b⟩
/-- A word behind a merge, the others as they were. -/
def mixJ (b : Mg) (W : List (List ByteArray)) (i : Nat) : List (List ByteArray) := (W.take i).map (joinT b) ++ W.drop i
set_option maxRecDepth 100000 in
theorem mixJ_len (b : Mg) (W : List (List ByteArray)) {i : Nat} (h : i ≤ W.length) : (mixJ b W i).length = W.length := by
  unfold mixJ
  rw [List.length_append, List.length_map, List.length_take, List.length_drop]
  omega
set_option maxRecDepth 100000 in
theorem mixJ_zero (b : Mg) (W : List (List ByteArray)) : mixJ b W 0 = W := by simp [mixJ]
set_option maxRecDepth 100000 in
theorem mixJ_all (b : Mg) (W : List (List ByteArray)) : mixJ b W W.length = W.map (joinT b) := by simp [mixJ]
set_option maxRecDepth 100000 in
theorem mixJ_at {b : Mg} {W : List (List ByteArray)} {i : Nat} (h : i < W.length) (h' : i < (mixJ b W i).length) : (mixJ b W i)[i] = W[i] := by
  simp only [mixJ]
  rw [List.getElem_append_right (by simp; omega)]
  simp [Nat.min_eq_left (Nat.le_of_lt h)]
set_option maxRecDepth 100000 in
theorem mixJ_step {b : Mg} {W : List (List ByteArray)} {i : Nat} (h : i < W.length) : (mixJ b W i).set i (joinT b W[i]) = mixJ b W (i + 1) := by
  unfold mixJ
  have hl : ((W.take i).map (joinT b)).length = i := by rw [List.length_map, List.length_take]; omega
  rw [List.set_append_right _ _ (by omega), hl, Nat.sub_self, List.drop_eq_getElem_cons h, List.set_cons_zero, List.take_succ_eq_append_getElem h, List.map_append]
  simp
end Go.Proofs.Ytbacbgpemaldbaa
