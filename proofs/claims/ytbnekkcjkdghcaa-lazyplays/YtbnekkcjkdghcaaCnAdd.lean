/- A count of the document's, as plain lists: a pair is taken out, a new one is put. -/
import Derived.Test.YtbnekkcjkdghcaaRcoAdd
namespace Go.Proofs.Ytbnekkcjkdghcaa
open Go.RowKit Go.Maps

set_option maxRecDepth 100000 in
theorem mulOf_one {a : Int} (h : 0 ≤ a) (h2 : a ≤ 9223372036854775807) : mulOf a 1 = (a, true) := by
  rw [mulOf_yes h (by omega) (by omega), Int.mul_one]
set_option maxRecDepth 100000 in
theorem negW_small {a : Int} (h : 0 ≤ a) (h2 : a ≤ 9223372036854775807) : negW (-a) = a := by
  unfold negW; rw [if_neg (by omega)]; omega
set_option maxRecDepth 100000 in
/-- A pair is taken out of the count. -/
theorem add_forget {L : Cn} (h : GoodC L) (p : Int × Int) : addC L p (-(getC L p)) 1 = (delC L p, 0) := by
  obtain ⟨h0, h1⟩ := h.get p
  unfold addC movOf
  rw [if_neg (by omega)]
  by_cases hz : getC L p = 0
  · rw [hz, if_pos (by omega)]
    have e : mulOf (-0) 1 = (0, true) := by rw [Int.neg_zero]; exact mulOf_one (by omega) (by omega)
    rw [e, cond_true, addOf_yes (by omega) (by omega) (by omega), cond_true]
    simp [setC]
  · rw [if_neg (by omega), negW_small h0 h1, mulOf_one h0 h1, cond_true, if_pos (Int.le_refl _), cond_true]
    simp [setC]
set_option maxRecDepth 100000 in
/-- A pair that isn't there is put. -/
theorem add_fresh {L : Cn} {p : Int × Int} {n : Int} (hz : getC L p = 0) (h0 : 0 ≤ n) (h1 : n ≤ 9223372036854775807) : addC L p n 1 = (setC L p n, 0) := by
  unfold addC movOf
  rw [if_neg (by omega), if_pos h0, mulOf_one h0 h1, cond_true, hz, addOf_yes (by omega) h0 (by omega), cond_true]
  simp
set_option maxRecDepth 100000 in
theorem get_delC {L : Cn} (h : RisC L) (p : Int × Int) : getC (delC L p) p = 0 := by rw [get_del h, if_pos rfl]
set_option maxRecDepth 100000 in
theorem set_delC {L : Cn} (h : RisC L) (p : Int × Int) (n : Int) : setC (delC L p) p n = setC L p n := by
  refine ris_ext (ris_set (ris_del h p) p n) (ris_set h p n) fun x => ?_
  rw [set_mem, set_mem, del_mem]
  constructor
  · rintro (hx | ⟨⟨hx, _⟩, h2⟩)
    · exact .inl hx
    · exact .inr ⟨hx, h2⟩
  · rintro (hx | ⟨hx, h2⟩)
    · exact .inl hx
    · exact .inr ⟨⟨hx, h2⟩, h2⟩
set_option maxRecDepth 100000 in
theorem set_ins {L : Cn} (p : Int × Int) {n : Int} (hn : 1 ≤ n) : setC L p n = insC p n L := by unfold setC; rw [if_neg (by omega)]
set_option maxRecDepth 100000 in
theorem set_zero (L : Cn) (p : Int × Int) : setC L p 0 = delC L p := by unfold setC; rw [if_pos rfl]
set_option maxRecDepth 100000 in
theorem GoodC.del {L : Cn} (h : GoodC L) (p : Int × Int) : GoodC (delC L p) := ⟨ris_del h.ris p, fun x hx => h.fits x (del_mem.1 hx).1⟩
end Go.Proofs.Ytbnekkcjkdghcaa
