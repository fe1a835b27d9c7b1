/- Rows of rows of texts; how often a pair is there, as plain sums. -/
import Derived.Test.YtbacbgpemaldbaaNvJ
import Derived.Test.YtbacbgpemaldbaaIntE
namespace Go.Proofs.Ytbacbgpemaldbaa
open Go.RowKit

/-- A row of texts as an element. -/
abbrev Hs := Option Addr × Nat × Nat
def hsV (e : Hs) : Value := .slice e.1 e.2.1 e.2.2
def slTE : Elt Hs where
  ty := 34
  sl := 30
  n := 1
  bytes := 24
  zero := .slice none 0 0
  enc := fun e => [.slice e.1 e.2.1 e.2.2]
  under := Try.underlying30
  info := by kernel_rfl
  pos := by decide
  small := by decide
  zlen := by kernel_rfl
  len := fun _ => rfl
  one := fun x u hu => by
    simp only [List.mem_cons, List.not_mem_nil, or_false] at hu
    rcases hu with rfl; rfl
/-- The slice value v reads as rows of texts. -/
def rowsT (w : World) (v : Value) (WW : List (List ByteArray)) : Prop := ∃ E : List Hs, E.length = WW.length ∧ eltsAt slTE w v E ∧ ∀ i (h : i < E.length) (h' : i < WW.length), eltsAt textE w (hsV E[i]) WW[i] ∧ nilNone (hsV E[i])
set_option maxRecDepth 100000 in
theorem rowsT.below {w w' : World} {v : Value} {WW : List (List ByteArray)} (h : rowsT w v WW) (hb : Below w.heap.size w w') : rowsT w' v WW := by
  obtain ⟨E, h1, h2, h3⟩ := h
  exact ⟨E, h1, h2.below hb (Nat.le_refl _), fun i a b => ⟨(h3 i a b).1.below hb (Nat.le_refl _), (h3 i a b).2⟩⟩
set_option maxRecDepth 100000 in
theorem rowsT.form {w : World} {v : Value} {WW : List (List ByteArray)} (h : rowsT w v WW) : ∃ a cap, v = .slice a WW.length cap := by
  obtain ⟨E, h1, ⟨a, cap, e, _⟩, _⟩ := h
  exact ⟨a, cap, by rw [e, h1]⟩
set_option maxRecDepth 100000 in
/-- One row. -/
theorem rowsT.at {w wr : World} {a : Option Addr} {n cap : Nat} {WW : List (List ByteArray)} (h : rowsT w (.slice a n cap) WW) (hb : Below w.heap.size w wr) {i : Nat} (hi : i < WW.length) :
    ∃ ad ai ci, a = some ad ∧ wr.cell? (ad.add i) = some (.slice ai WW[i].length ci) ∧ eltsAt textE wr (.slice ai WW[i].length ci) WW[i] ∧ nilNone (.slice ai WW[i].length ci) := by
  obtain ⟨E, h1, h2, h3⟩ := h
  have hE : i < E.length := by omega
  obtain ⟨a', cap', e, hc⟩ := id h2
  cases e
  obtain ⟨ad, rfl, _, _⟩ := hc i hE
  have hx := elts_at h2 hb hE 0 _ rfl
  rw [show i * slTE.n + 0 = i by show i * 1 + 0 = i; omega] at hx
  obtain ⟨r1, r2⟩ := h3 i hE hi
  obtain ⟨⟨ei, en, ec⟩, hEi⟩ : ∃ e, E[i] = e := ⟨_, rfl⟩
  rw [hEi] at hx r1 r2
  unfold hsV at r1 r2
  simp only at hx r1 r2
  obtain ⟨_, _, e2, _⟩ := id r1
  obtain ⟨rfl, rfl, rfl⟩ := Value.slice.inj e2
  exact ⟨ad, ei, ec, rfl, hx, r1.below hb (Nat.le_refl _), r2⟩
set_option maxRecDepth 100000 in
/-- One text of a row. -/
theorem text_in {w wr : World} {a : Option Addr} {n cap : Nat} {L : List ByteArray} (h : eltsAt textE w (.slice a n cap) L) (hb : Below w.heap.size w wr) {k : Nat} (hk : k < L.length) : ∃ ad, a = some ad ∧ wr.cell? (ad.add k) = some (.string L[k]) := by
  obtain ⟨a', cap', e, hc⟩ := id h
  cases e
  obtain ⟨ad, rfl, _, _⟩ := hc k hk
  exact ⟨ad, rfl, txt_cell h hb hk⟩
/-! Sums. -/
set_option maxRecDepth 100000 in
theorem cnt_take_one (m : Mg) (w : List ByteArray) : cntT m (w.take 1) = 0 := by
  cases w with
  | nil => rfl
  | cons x r => rfl
set_option maxRecDepth 100000 in
theorem cnt_take {m : Mg} : ∀ {w : List ByteArray} {k : Nat} (h : k + 1 < w.length), cntT m (w.take (k + 2)) = cntT m (w.take (k + 1)) + (if w[k]'(by omega) = m.1 ∧ w[k + 1] = m.2 then 1 else 0)
  | x :: y :: r, 0, h => by
    show (if x = m.1 ∧ y = m.2 then 1 else 0) + cntT m [y] = 0 + _
    simp [cntT]
  | x :: y :: r, k + 1, h => by
    have ih := cnt_take (m := m) (w := y :: r) (k := k) (by simpa using h)
    show (if x = m.1 ∧ y = m.2 then 1 else 0) + cntT m ((y :: r).take (k + 2)) = (if x = m.1 ∧ y = m.2 then 1 else 0) + cntT m ((y :: r).take (k + 1)) + _
    rw [ih]
    simp only [List.getElem_cons_succ]
    omega
set_option maxRecDepth 100000 in
theorem cnt_le (m : Mg) : ∀ w : List ByteArray, cntT m w ≤ w.length - 1
  | [] => by simp [cntT]
  | [x] => by simp [cntT]
  | x :: y :: r => by
    have := cnt_le m (y :: r)
    unfold cntT
    simp only [List.length_cons] at *
    split <;> omega
/-- The greatest that may come of it. -/
def capW : List (List ByteArray) → List Int → Int
  | W :: R, c :: C => (if 1 ≤ c then ((W.length - 1 : Nat) : Int) * c else 0) + capW R C
  | _, _ => 0
set_option maxRecDepth 100000 in
theorem capW_cons (w : List ByteArray) (R : List (List ByteArray)) (c : Int) (C : List Int) : capW (w :: R) (c :: C) = (if 1 ≤ c then ((w.length - 1 : Nat) : Int) * c else 0) + capW R C := rfl
set_option maxRecDepth 100000 in
theorem cntW_cons (m : Mg) (w : List ByteArray) (R : List (List ByteArray)) (c : Int) (C : List Int) : cntW m (w :: R) (c :: C) = (if 1 ≤ c then (cntT m w : Int) * c else 0) + cntW m R C := rfl
set_option maxRecDepth 100000 in
theorem capW_pos : ∀ (W : List (List ByteArray)) (C : List Int), 0 ≤ capW W C
  | [], _ => by simp [capW]
  | _ :: _, [] => by simp [capW]
  | w :: R, c :: C => by
    have := capW_pos R C
    unfold capW
    split
    · have : 0 ≤ ((w.length - 1 : Nat) : Int) * c := Int.mul_nonneg (by omega) (by omega)
      omega
    · omega
set_option maxRecDepth 100000 in
theorem cntW_le (m : Mg) : ∀ (W : List (List ByteArray)) (C : List Int), 0 ≤ cntW m W C ∧ cntW m W C ≤ capW W C
  | [], _ => by simp [capW, cntW]
  | _ :: _, [] => by simp [capW, cntW]
  | w :: R, c :: C => by
    have ih := cntW_le m R C
    have hc := cnt_le m w
    unfold capW cntW
    split
    · have h1 : 0 ≤ (cntT m w : Int) * c := Int.mul_nonneg (by omega) (by omega)
      have h2 : (cntT m w : Int) * c ≤ ((w.length - 1 : Nat) : Int) * c := Int.mul_le_mul_of_nonneg_right (by omega) (by omega)
      omega
    · omega
set_option maxRecDepth 100000 in
/-- The first i words; what comes behind them. -/
theorem cntW_split (m : Mg) : ∀ (W : List (List ByteArray)) (C : List Int) (i : Nat), cntW m W C = cntW m (W.take i) (C.take i) + cntW m (W.drop i) (C.drop i)
  | [], C, i => by simp [cntW]
  | w :: R, [], i => by cases i <;> simp [cntW]
  | w :: R, c :: C, 0 => by simp [cntW]
  | w :: R, c :: C, i + 1 => by
    have ih := cntW_split m R C i
    rw [List.take_succ_cons, List.take_succ_cons, List.drop_succ_cons, List.drop_succ_cons, cntW_cons, cntW_cons]
    omega
set_option maxRecDepth 100000 in
theorem capW_split : ∀ (W : List (List ByteArray)) (C : List Int) (i : Nat), capW W C = capW (W.take i) (C.take i) + capW (W.drop i) (C.drop i)
  | [], C, i => by simp [capW]
  | w :: R, [], i => by cases i <;> simp [capW]
  | w :: R, c :: C, 0 => by simp [capW]
  | w :: R, c :: C, i + 1 => by
    have ih := capW_split R C i
    rw [List.take_succ_cons, List.take_succ_cons, List.drop_succ_cons, List.drop_succ_cons, capW_cons, capW_cons]
    omega
set_option maxRecDepth 100000 in
theorem cntW_next {m : Mg} {W : List (List ByteArray)} {C : List Int} {i : Nat} (h : i < W.length) (h' : i < C.length) : cntW m (W.take (i + 1)) (C.take (i + 1)) = cntW m (W.take i) (C.take i) + (if 1 ≤ C[i] then (cntT m W[i] : Int) * C[i] else 0) := by
  have e := cntW_split m (W.take (i + 1)) (C.take (i + 1)) i
  rw [List.take_take, List.take_take, Nat.min_eq_left (by omega)] at e
  rw [e]
  have e1 : (W.take (i + 1)).drop i = [W[i]] := by rw [List.take_succ_eq_append_getElem h, List.drop_append_of_le_length (by rw [List.length_take]; omega), List.drop_of_length_le (by rw [List.length_take]; omega)]; rfl
  have e2 : (C.take (i + 1)).drop i = [C[i]] := by rw [List.take_succ_eq_append_getElem h', List.drop_append_of_le_length (by rw [List.length_take]; omega), List.drop_of_length_le (by rw [List.length_take]; omega)]; rfl
  rw [e1, e2]
  simp [cntW]
set_option maxRecDepth 100000 in
/-- What is counted in the midst of a word stays within. -/
theorem cntW_mid {m : Mg} {W : List (List ByteArray)} {C : List Int} {i : Nat} (h : i < W.length) (h' : i < C.length) (hc : 1 ≤ C[i]) (k : Nat) : cntW m (W.take i) (C.take i) + (cntT m (W[i].take k) : Int) * C[i] ≤ capW W C := by
  have h1 := capW_split W C i
  have h2 := (cntW_le m (W.take i) (C.take i)).2
  have h3 : capW (W.drop i) (C.drop i) = ((W[i].length - 1 : Nat) : Int) * C[i] + capW (W.drop (i + 1)) (C.drop (i + 1)) := by
    rw [List.drop_eq_getElem_cons h, List.drop_eq_getElem_cons h', capW_cons, if_pos hc]
  have h4 := capW_pos (W.drop (i + 1)) (C.drop (i + 1))
  have h5 := cnt_le m (W[i].take k)
  have h6 : (W[i].take k).length ≤ W[i].length := by rw [List.length_take]; omega
  have h7 : (cntT m (W[i].take k) : Int) * C[i] ≤ ((W[i].length - 1 : Nat) : Int) * C[i] := Int.mul_le_mul_of_nonneg_right (by omega) (by omega)
  omega
set_option maxRecDepth 100000 in
theorem cntW_all {m : Mg} {W : List (List ByteArray)} {C : List Int} {i : Nat} (h : W.length ≤ i ∨ C.length ≤ i) : cntW m (W.take i) (C.take i) = cntW m W C := by
  have e := cntW_split m W C i
  have : cntW m (W.drop i) (C.drop i) = 0 := by
    rcases h with h | h
    · rw [List.drop_of_length_le h]; rfl
    · rw [List.drop_of_length_le h]
      cases W.drop i <;> rfl
  omega
end Go.Proofs.Ytbacbgpemaldbaa
