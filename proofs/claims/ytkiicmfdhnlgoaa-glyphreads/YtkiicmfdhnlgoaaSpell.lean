/- Plain words: texts and their signs. -/
import Derived.Test.YtkiicmfdhnlgoaaShow
import Derived.Lib.TrimUEq
import Derived.Lib.RuneCount
namespace Go.Proofs.Ytkiicmfdhnlgoaa
open Go.RowKit

theorem sgN_bd (b : UInt8) : 33 ≤ sgN b ∧ sgN b ≤ 323 := by
  have := sg_bd (c := (b.toNat : Int)) (by omega) (by have := b.toNat_lt; omega)
  unfold sgN; omega
theorem sgN_int (b : UInt8) : (sgN b : Int) = sg (b.toNat : Int) := by
  have := sg_bd (c := (b.toNat : Int)) (by omega) (by have := b.toNat_lt; omega)
  unfold sgN; omega
theorem sgN_is (b : UInt8) : isSg (sgN b : Int) = true := by rw [sgN_int]; exact isSg_sg (by omega) (by have := b.toNat_lt; omega)
theorem sgN_by (b : UInt8) : by' (sgN b : Int) = (b.toNat : Int) := by rw [sgN_int]; exact by_sg (by omega) (by have := b.toNat_lt; omega)
/-- The byte of a sign. -/
def byB (r : Nat) : UInt8 := UInt8.ofNat (by' (r : Int)).toNat
theorem byB_nat (r : Nat) : ((byB r).toNat : Int) = by' (r : Int) := by
  have := by_bd (r : Int)
  unfold byB
  have e : (UInt8.ofNat (by' (r : Int)).toNat).toNat = (by' (r : Int)).toNat := by simp; omega
  rw [e]; omega
theorem sgN_byB {r : Nat} (h : isSg (r : Int) = true) : sgN (byB r) = r := by
  have := sgN_int (byB r)
  rw [byB_nat, sg_by h] at this
  omega
theorem sgN_inj {a b : UInt8} (h : sgN a = sgN b) : a = b := by
  have ha := sgN_by a
  rw [h, sgN_by b] at ha
  exact UInt8.toNat_inj.1 (by omega)

/-- The rune's bytes by number. -/
theorem enc_head {r : Nat} (h : r ≤ 323) (t : List UInt8) : ((enc r ++ t).getD 0 0).toNat = if r < 128 then r else 192 + r / 64 := by
  unfold enc; split
  · simp; omega
  · simp; omega
theorem enc_next {r : Nat} (h0 : 128 ≤ r) (t : List UInt8) : ((enc r ++ t).getD 1 0).toNat = 128 + r % 64 := by
  rw [enc_hi h0]; simp; omega
theorem enc_size (r : Nat) : (enc r).length = if r < 128 then 1 else 2 := by unfold enc; split <;> simp

theorem enc_cancel {x y : Nat} (hx : x ≤ 323) (hy : y ≤ 323) {p q : List UInt8} (h : enc x ++ p = enc y ++ q) : x = y ∧ p = q := by
  have a := enc_head hx p
  have b := enc_head hy q
  rw [h, b] at a
  have e : x = y := by
    by_cases h1 : x < 128
    · by_cases h2 : y < 128
      · simp [h1, h2] at a; omega
      · simp [h1, h2] at a; omega
    · by_cases h2 : y < 128
      · simp [h1, h2] at a; omega
      · have c := enc_next (r := x) (by omega) p
        rw [h, enc_next (r := y) (by omega) q] at c
        simp [h1, h2] at a; omega
  subst e
  exact ⟨rfl, List.append_cancel_left h⟩
theorem enc_ne (r : Nat) : enc r ≠ [] := by unfold enc; split <;> simp

theorem show_cancel : ∀ (l m rest : List UInt8), showL m = showL l ++ rest → ∃ m', m = l ++ m' ∧ rest = showL m'
  | [], m, rest, h => ⟨m, rfl, by simpa [showL] using h.symm⟩
  | a :: l, [], rest, h => by
    rw [showL_cons] at h
    have : enc (sgN a) = [] := by
      have h' := congrArg List.length h
      simp [showL] at h'
      exact List.eq_nil_of_length_eq_zero (by omega)
    exact absurd this (enc_ne _)
  | a :: l, c :: m, rest, h => by
    rw [showL_cons, showL_cons, List.append_assoc] at h
    obtain ⟨e, h'⟩ := enc_cancel (sgN_bd c).2 (sgN_bd a).2 h
    obtain ⟨m', rfl, hr⟩ := show_cancel l m rest h'
    exact ⟨m', by rw [sgN_inj e]; rfl, hr⟩
theorem show_inj {l m : List UInt8} (h : showL l = showL m) : l = m := by
  obtain ⟨m', e, hr⟩ := show_cancel m l [] (by simpa using h)
  cases m' with
  | nil => simpa using e
  | cons b m' =>
    rw [showL_cons] at hr
    exact absurd (List.append_eq_nil_iff.1 hr.symm).1 (enc_ne _)
theorem show_app (a b : List UInt8) : showL (a ++ b) = showL a ++ showL b := by simp [showL]

/-- A rune of two bytes at a place. -/
def two (L : List UInt8) (p : Nat) : Prop := 194 ≤ (L.getD p 0).toNat ∧ (L.getD p 0).toNat ≤ 223 ∧ p + 1 < L.length ∧ 128 ≤ (L.getD (p + 1) 0).toNat ∧ (L.getD (p + 1) 0).toNat ≤ 191
def twoV (L : List UInt8) (p : Nat) : Nat := ((L.getD p 0).toNat - 192) * 64 + ((L.getD (p + 1) 0).toNat - 128)

/-- What stands at a place behind which signs go on. -/
theorem at_sign {L : List UInt8} {p : Nat} {b : UInt8} {t : List UInt8} (h : L.drop p = enc (sgN b) ++ t) :
    (sgN b < 128 ∧ (L.getD p 0).toNat = sgN b) ∨ (128 ≤ sgN b ∧ 128 ≤ (L.getD p 0).toNat ∧ two L p ∧ twoV L p = sgN b) := by
  have hb := sgN_bd b
  have g0 : (L.getD p 0).toNat = if sgN b < 128 then sgN b else 192 + sgN b / 64 := by
    rw [← enc_head hb.2 t, ← h, Lib.getD_dropU, Nat.add_zero]
  by_cases hl : sgN b < 128
  · left; rw [if_pos hl] at g0; exact ⟨hl, g0⟩
  · right
    have g1 : (L.getD (p + 1) 0).toNat = 128 + sgN b % 64 := by
      rw [← enc_next (r := sgN b) (by omega) t, ← h, Lib.getD_dropU]
    rw [if_neg hl] at g0
    have hlen := congrArg List.length h
    rw [List.length_drop, List.length_append, enc_size, if_neg hl] at hlen
    unfold two twoV
    rw [g0, g1]
    exact ⟨by omega, by omega, ⟨by omega, by omega, by omega, by omega, by omega⟩, by omega⟩

/-- The signs have come to place p: if the whole is some text's, a sign stands there. -/
theorem sign_next {L l m : List UInt8} {p : Nat} (hl : showL l = L.take p) (hp : p < L.length) (hm : showL m = L) : ∃ b t, L.drop p = enc (sgN b) ++ t := by
  obtain ⟨m', _, hr⟩ := show_cancel l m (L.drop p) (by rw [hm, hl, List.take_append_drop])
  cases m' with
  | nil =>
    have := congrArg List.length hr
    simp [showL] at this
    omega
  | cons b m' => exact ⟨b, showL m', by rw [hr, showL_cons]⟩

theorem fail_one {L l : List UInt8} {p : Nat} (hl : showL l = L.take p) (hp : p < L.length) (h0 : (L.getD p 0).toNat < 128) (h : isSg ((L.getD p 0).toNat : Int) = false) : ∀ m, showL m ≠ L := by
  intro m hm
  obtain ⟨b, t, hd⟩ := sign_next hl hp hm
  rcases at_sign hd with ⟨_, e⟩ | ⟨_, e, _⟩
  · rw [e, sgN_is] at h; cases h
  · omega
theorem fail_two {L l : List UInt8} {p : Nat} (hl : showL l = L.take p) (hp : p < L.length) (h0 : 128 ≤ (L.getD p 0).toNat) (h : ¬ two L p ∨ isSg (twoV L p : Int) = false) : ∀ m, showL m ≠ L := by
  intro m hm
  obtain ⟨b, t, hd⟩ := sign_next hl hp hm
  rcases at_sign hd with ⟨_, e⟩ | ⟨_, _, e, g⟩
  · omega
  · rcases h with h | h
    · exact h e
    · rw [g, sgN_is] at h; cases h

theorem take_next (L : List UInt8) (p : Nat) (h : p < L.length) : L.take (p + 1) = L.take p ++ [L.getD p 0] := by
  rw [List.take_succ_eq_append_getElem h]; simp [List.getD, h]
theorem ok_one {L l : List UInt8} {p : Nat} (hl : showL l = L.take p) (hp : p < L.length) (h0 : (L.getD p 0).toNat < 128) (h : isSg ((L.getD p 0).toNat : Int) = true) : showL (l ++ [byB (L.getD p 0).toNat]) = L.take (p + 1) := by
  rw [show_app, hl, take_next L p hp, showL_cons, sgN_byB h, enc_lo h0]
  simp [showL]
theorem ok_two {L l : List UInt8} {p : Nat} (hl : showL l = L.take p) (h0 : two L p) (h : isSg (twoV L p : Int) = true) : showL (l ++ [byB (twoV L p)]) = L.take (p + 2) := by
  obtain ⟨a, b, c, d, e⟩ := h0
  have hv : 128 ≤ twoV L p := by unfold twoV; omega
  rw [show_app, hl, take_next L (p + 1) c, take_next L p (by omega), showL_cons, sgN_byB h, enc_hi hv]
  have x : UInt8.ofNat (192 + twoV L p / 64) = L.getD p 0 := UInt8.toNat_inj.1 (by
    rw [show (UInt8.ofNat (192 + twoV L p / 64)).toNat = (192 + twoV L p / 64) % 256 from by simp]
    unfold twoV; omega)
  have y : UInt8.ofNat (128 + twoV L p % 64) = L.getD (p + 1) 0 := UInt8.toNat_inj.1 (by
    rw [show (UInt8.ofNat (128 + twoV L p % 64)).toNat = (128 + twoV L p % 64) % 256 from by simp]
    unfold twoV; omega)
  rw [x, y]
  simp [showL]

/-- What a range tells at a place. -/
theorem isSg_big {r : Int} (h : 324 ≤ r) : isSg r = false := by unfold isSg; rw [decide_eq_false_iff_not]; omega
theorem dec_lo {s : ByteArray} {p : Nat} (h : (s.data.toList.getD p 0).toNat < 128) : Utf8.decode s p = ((s.data.toList.getD p 0).toNat, 1) := by
  rw [Lib.decode_N, Lib.decodeN, if_pos h]
theorem dec_two {s : ByteArray} {p : Nat} (h : two s.data.toList p) : Utf8.decode s p = (twoV s.data.toList p, 2) := by
  obtain ⟨a, b, c, d, e⟩ := h
  rw [Lib.decode_N, Lib.decodeN, if_neg (by omega), if_pos ⟨by omega, by omega, by omega⟩, if_pos (by omega)]
  have e : (s.data.toList.getD p 0).toNat % 32 * 64 + (s.data.toList.getD (p + 1) 0).toNat % 64 = twoV s.data.toList p := by unfold twoV; omega
  rw [e]
theorem dec_none {s : ByteArray} {p : Nat} (h0 : 128 ≤ (s.data.toList.getD p 0).toNat) (h : ¬ two s.data.toList p) : isSg ((Utf8.decode s p).1 : Int) = false := by
  apply isSg_big
  have b0 := (s.data.toList.getD p 0).toNat_lt
  have b1 := (s.data.toList.getD (p + 1) 0).toNat_lt
  unfold two at h
  rw [Lib.decode_N]
  generalize (s.data.toList.getD p 0).toNat = x at *
  generalize (s.data.toList.getD (p + 1) 0).toNat = y at *
  generalize (s.data.toList.getD (p + 2) 0).toNat = z at *
  generalize (s.data.toList.getD (p + 3) 0).toNat = u at *
  unfold Lib.decodeN
  (repeat' split) <;> simp only <;> omega

/-- One round of a range over a text: signs go on, or it is none's. -/
theorem dec_step {s : ByteArray} {l : List UInt8} {p : Nat} (hl : showL l = s.data.toList.take p) (hp : p < s.size) :
    (isSg ((Utf8.decode s p).1 : Int) = true → showL (l ++ [byB (Utf8.decode s p).1]) = s.data.toList.take (p + (Utf8.decode s p).2) ∧ p + (Utf8.decode s p).2 ≤ s.size) ∧
    (isSg ((Utf8.decode s p).1 : Int) = false → ∀ m, showL m ≠ s.data.toList) := by
  have hp' : p < s.data.toList.length := by simpa using hp
  have hz : s.data.toList.length = s.size := by rw [Array.length_toList]; rfl
  by_cases h : (s.data.toList.getD p 0).toNat < 128
  · rw [dec_lo h]
    exact ⟨fun g => ⟨ok_one hl hp' h g, by simp only; omega⟩, fun g => fail_one hl hp' h g⟩
  · by_cases h2 : two s.data.toList p
    · rw [dec_two h2]
      exact ⟨fun g => ⟨ok_two hl h2 g, by have := h2.2.2.1; simp only; omega⟩, fun g => fail_two hl hp' (by omega) (.inr g)⟩
    · rw [dec_none (by omega) h2]
      exact ⟨fun g => by simp at g, fun _ => fail_two hl hp' (by omega) (.inl h2)⟩

/-- As many runes as bytes. -/
theorem dec_sign {s : ByteArray} {p : Nat} {b : UInt8} {t : List UInt8} (h : s.data.toList.drop p = enc (sgN b) ++ t) : (Utf8.decode s p).2 = (enc (sgN b)).length := by
  rcases at_sign h with ⟨g, e⟩ | ⟨g, _, e, _⟩
  · rw [dec_lo (by omega), enc_size, if_pos g]
  · rw [dec_two e, enc_size, if_neg (by omega)]
theorem count_from {s : ByteArray} : ∀ (m l : List UInt8) (f p : Nat), showL l = s.data.toList.take p → showL m = s.data.toList.drop p → p ≤ s.size → s.size ≤ p + f → Lib.runeCountFrom s f p = m.length
  | [], l, f, p, hl, hm, hp, hf => by
    have hz : s.data.toList.length = s.size := by rw [Array.length_toList]; rfl
    have := congrArg List.length hm
    simp only [showL, List.flatMap_nil, List.length_nil, List.length_drop] at this
    rw [Lib.runeCountFrom_end s f p (by omega)]; rfl
  | b :: m, l, f, p, hl, hm, hp, hf => by
    have hz : s.data.toList.length = s.size := by rw [Array.length_toList]; rfl
    rw [showL_cons] at hm
    have hw := dec_sign hm.symm
    have hlen := congrArg List.length hm
    rw [List.length_append, List.length_drop] at hlen
    have hn : 0 < (enc (sgN b)).length := List.length_pos_iff.2 (enc_ne _)
    cases f with
    | zero => omega
    | succ f =>
      unfold Lib.runeCountFrom
      rw [if_pos (by omega), hw, count_from m (l ++ [b]) f (p + (enc (sgN b)).length) ?_ ?_ (by omega) (by omega), List.length_cons]
      · omega
      · rw [show_app, hl, List.take_add, ← hm, List.take_left]
        simp [showL]
      · rw [← List.drop_drop, ← hm, List.drop_left]
theorem count_show {s : ByteArray} {l : List UInt8} (h : showL l = s.data.toList) : Lib.runeCount s = l.length :=
  count_from l [] s.size 0 rfl (by simpa using h) (Nat.zero_le _) (by omega)
theorem count_pos {s : ByteArray} (h : 0 < s.size) : 0 < Lib.runeCount s := by
  unfold Lib.runeCount
  obtain ⟨n, hn⟩ : ∃ n, s.size = n + 1 := ⟨s.size - 1, by omega⟩
  rw [hn]
  unfold Lib.runeCountFrom
  rw [if_pos (by omega)]
  omega
end Go.Proofs.Ytkiicmfdhnlgoaa
