/- Plain words: digits that are read. -/
import Derived.Test.YtoiboofdafgnfaaPut
namespace Go.Proofs.Ytoiboofdafgnfaa
open Go.RowKit

def dv (b : UInt8) : Nat := (digVal (b.toNat : Int)).toNat
def dk (b : UInt8) : Bool := isDig (b.toNat : Int)
/-- The bytes of the pairs of digits. -/
def dec : List UInt8 → List UInt8
  | a :: b :: r => UInt8.ofNat (16 * dv a + dv b) :: dec r
  | _ => []
/-- Is it the digits of a text? -/
def takeOk (l : List UInt8) : Bool := decide (l.length % 2 = 0) && l.all dk
def takeT (l : List UInt8) : List UInt8 := if takeOk l = true then dec l else []

theorem digVal_bd (c : Int) : 0 ≤ digVal c ∧ digVal c ≤ 15 := by unfold digVal; split <;> (try split) <;> omega
theorem dv_bd (b : UInt8) : dv b < 16 := by have := digVal_bd (b.toNat : Int); unfold dv; omega
theorem dv_int (b : UInt8) : digVal (b.toNat : Int) = (dv b : Int) := by have := digVal_bd (b.toNat : Int); unfold dv; omega

theorem dec_snoc2 : ∀ (l : List UInt8) (a b : UInt8), l.length % 2 = 0 → dec (l ++ [a, b]) = dec l ++ [UInt8.ofNat (16 * dv a + dv b)]
  | [], a, b, _ => rfl
  | [x], _, _, h => by simp at h
  | x :: y :: r, a, b, h => by
    have hr : r.length % 2 = 0 := by simp at h; omega
    simp [dec, dec_snoc2 r a b hr]
theorem dec_len : ∀ (l : List UInt8), (dec l).length = l.length / 2
  | [] => rfl
  | [x] => by simp [dec]
  | x :: y :: r => by simp [dec, dec_len r]; omega
theorem takeOk_bad {l : List UInt8} {k : Nat} (hk : k < l.length) (h : dk l[k] = false) : takeOk l = false := by
  unfold takeOk
  rw [Bool.and_eq_false_iff]
  right
  rw [List.all_eq_false]
  exact ⟨l[k], List.getElem_mem hk, by simp [h]⟩
theorem takeOk_odd {l : List UInt8} (h : l.length % 2 = 1) : takeOk l = false := by
  unfold takeOk; simp [h]
theorem takeOk_all {l : List UInt8} (h : l.length % 2 = 0) (ha : ∀ j (hj : j < l.length), dk l[j] = true) : takeOk l = true := by
  unfold takeOk
  simp only [h, decide_true, Bool.true_and]
  rw [List.all_eq_true]
  intro x hx
  obtain ⟨j, hj, rfl⟩ := List.getElem_of_mem hx
  exact ha j hj
theorem takeT_bad {l : List UInt8} (h : takeOk l = false) : takeT l = [] := by simp [takeT, h]
theorem takeT_ok {l : List UInt8} (h : takeOk l = true) : takeT l = dec l := by simp [takeT, h]

/-- What is read from the digits of a text is the text. -/
theorem hexc_dig : ∀ n : Nat, n < 16 → dk (hexc n) = true ∧ dv (hexc n) = n := by decide
theorem dec_put : ∀ l : List UInt8, dec (putL l) = l
  | [] => rfl
  | b :: r => by
    have hb := b.toNat_lt
    have e : putL (b :: r) = hexc (b.toNat / 16) :: hexc (b.toNat % 16) :: putL r := by simp [putL]
    rw [e, dec, (hexc_dig _ (by omega)).2, (hexc_dig _ (by omega)).2, dec_put r]
    congr 1
    rw [Nat.div_add_mod]
    simp
theorem takeOk_put (l : List UInt8) : takeOk (putL l) = true := by
  unfold takeOk
  rw [putL_len]
  simp only [Nat.mul_mod_right, decide_true, Bool.true_and]
  rw [List.all_eq_true]
  intro x hx
  simp only [putL, List.mem_flatMap, List.mem_cons, List.not_mem_nil, or_false] at hx
  obtain ⟨b, _, h⟩ := hx
  have hb := b.toNat_lt
  rcases h with rfl | rfl
  · exact (hexc_dig _ (by omega)).1
  · exact (hexc_dig _ (by omega)).1

/-- What is the digits of a text is written as it was. -/
theorem put_dig_nat : ∀ n : Nat, n < 256 → dk (UInt8.ofNat n) = true → hexc (dv (UInt8.ofNat n)) = UInt8.ofNat n := by decide +kernel
theorem put_dig (a : UInt8) (h : dk a = true) : hexc (dv a) = a := by
  have e : UInt8.ofNat a.toNat = a := by simp
  have := put_dig_nat a.toNat a.toNat_lt
  rw [e] at this
  exact this h
theorem put_dec : ∀ l : List UInt8, takeOk l = true → putL (dec l) = l
  | [], _ => rfl
  | [x], h => by simp [takeOk] at h
  | a :: b :: r, h => by
    have hr : takeOk r = true ∧ dk a = true ∧ dk b = true := by
      simp only [takeOk, Bool.and_eq_true, decide_eq_true_eq, List.length_cons, List.all_cons] at h ⊢
      exact ⟨⟨by omega, h.2.2.2⟩, h.2.1, h.2.2.1⟩
    have ha := dv_bd a; have hb := dv_bd b
    have e : putL (dec (a :: b :: r)) = hexc ((UInt8.ofNat (16 * dv a + dv b)).toNat / 16) :: hexc ((UInt8.ofNat (16 * dv a + dv b)).toNat % 16) :: putL (dec r) := by simp [putL, dec]
    have e2 : (UInt8.ofNat (16 * dv a + dv b)).toNat = 16 * dv a + dv b := by simp; omega
    rw [e, e2, put_dec r hr.1, show (16 * dv a + dv b) / 16 = dv a from by omega, show (16 * dv a + dv b) % 16 = dv b from by omega, put_dig a hr.2.1, put_dig b hr.2.2]
end Go.Proofs.Ytoiboofdafgnfaa
