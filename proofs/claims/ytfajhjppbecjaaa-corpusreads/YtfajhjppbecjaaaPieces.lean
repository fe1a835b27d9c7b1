/- The contracts of gluepotref03.Whole and of a law's great (100 pieces, 3,000 bytes). -/
import Derived.Test.YtfajhjppbecjaaaMem
namespace Go.Proofs.Ytfajhjppbecjaaa
open Go.RowKit

def WholeRel (L : List (List UInt8)) (w : World) (s i : Value) (wr : World) : Prop :=
  ∃ k : Nat, k ≤ L.length ∧ i = .int .i64 (k : Int) ∧ s = .string ⟨(L.take k).flatten.toArray⟩ ∧ wr = w
theorem whole_any (v : Value) (L : List (List UInt8)) (w : World) (hv : strsAt w v L) (hn : L.length ≤ 1048576) (hs : L.flatten.length ≤ 1048576) :
    Calls Try.prog 17 #[v] w fun e w' => e = .returned (.string ⟨L.flatten.toArray⟩) ∧ w = w' := by
  obtain ⟨a, cap, rfl, hc⟩ := hv
  have HC := Lib.hid hc; clear hc
  go_enter Try.func17, Try.ntmps17
  go_wp2
  go_loopw [3, 4] (fun s i wr => WholeRel L w s i wr) (fun _ i _ => L.length - (intOf i).toNat)
  case atStart => exact ⟨0, Nat.zero_le _, rfl, rfl, rfl⟩
  case round =>
    obtain ⟨k, hk, rfl, rfl, rfl⟩ := hrel
    by_cases hlt : k < L.length
    · obtain ⟨ad, rfl, hcell⟩ := HC.out k hlt
      unfold tx at hcell
      have hf1 := flat_next L hlt
      have hf2 := flat_le L (k + 1)
      have hf3 := congrArg List.length hf1
      rw [List.length_append] at hf3
      obtain ⟨t, ht⟩ : ∃ t : ByteArray, t = ⟨(L.take k).flatten.toArray⟩ := ⟨_, rfl⟩
      obtain ⟨x, hx⟩ : ∃ x : ByteArray, x = ⟨L[k].toArray⟩ := ⟨_, rfl⟩
      obtain ⟨y, hy⟩ : ∃ y : ByteArray, t ++ x = y := ⟨_, rfl⟩
      have hts : t.size = (L.take k).flatten.length := by rw [ht]; exact List.size_toArray
      have hxs : x.size = L[k].length := by rw [hx]; exact List.size_toArray
      have hc1 : ¬ (9223372036854775807 < t.size + x.size) := by omega
      rw [← ht]
      rw [← hx] at hcell
      have HY : Hid (y = ⟨(L.take (k + 1)).flatten.toArray⟩) := Lib.hid (by rw [← hy, ht, hx, ByteArray.mk_append_mk, hf1])
      clear hf1 hf2 hf3 hts hxs ht hx
      go_wp2
      go_roundw
      case rel => exact ⟨k + 1, hlt, rfl, by rw [HY.out], rfl⟩
      case measure => simp [intOf]; omega
    · go_wp2
      go_ret
      have hl : L.take k = L := List.take_of_length_le (by omega)
      exact ⟨by rw [hl]; rfl, rfl⟩
def GreatRel (L : List (List UInt8)) (w : World) (n i : Value) (wr : World) : Prop :=
  ∃ k : Nat, k ≤ L.length ∧ i = .int .i64 (k : Int) ∧ n = .int .i64 ((L.take k).flatten.length : Int) ∧ (L.take k).flatten.length ≤ 3000 * k ∧ wr = w
def GreatRet (L : List (List UInt8)) (e : Ending) : Prop := ∃ b, e = .returned (.bool b) ∧ (b = false → L.length ≤ 100 ∧ L.flatten.length ≤ 3000)
theorem great_any (v : Value) (L : List (List UInt8)) (w : World) (hv : strsAt w v L) (hn : L.length ≤ 8796093022208) :
    Calls Try.prog 7 #[v] w fun e w' => GreatRet L e ∧ w = w' := by
  obtain ⟨a, cap, rfl, hc⟩ := hv
  have HC := Lib.hid hc; clear hc
  go_enter Try.func7, Try.ntmps7
  go_wp2
  go_loopw [3, 4] (fun n i wr => GreatRel L w n i wr) (fun _ i _ => L.length - (intOf i).toNat)
  case atStart => exact ⟨0, Nat.zero_le _, rfl, rfl, by simp, rfl⟩
  case round =>
    obtain ⟨k, hk, rfl, rfl, hle, rfl⟩ := hrel
    by_cases hlt : k < L.length
    · obtain ⟨ad, rfl, hcell⟩ := HC.out k hlt
      unfold tx at hcell
      have hf1 := congrArg List.length (flat_next L hlt)
      rw [List.length_append] at hf1
      obtain ⟨x, hx⟩ : ∃ x : ByteArray, x = ⟨L[k].toArray⟩ := ⟨_, rfl⟩
      have hxs : x.size = L[k].length := by rw [hx]; exact List.size_toArray
      rw [← hx] at hcell
      clear hx
      obtain ⟨n, hnn⟩ : ∃ n, n = (L.take k).flatten.length := ⟨_, rfl⟩
      rw [← hnn] at hf1 hle ⊢
      rw [← hxs] at hf1
      by_cases hbig : (3000 : Int) < (x.size : Int)
      · have HN := Lib.hid hnn; have HF := Lib.hid hf1; have HX := Lib.hid hxs
        clear hnn hf1 hxs
        go_wp2
        go_ret
        exact ⟨⟨_, rfl, fun h => by cases h⟩, rfl⟩
      · have HN := Lib.hid hnn; have HF := Lib.hid hf1; have HX := Lib.hid hxs
        clear hnn hf1 hxs
        go_wp2
        go_roundw
        case rel => exact ⟨k + 1, hlt, rfl, by rw [HF.out]; go_num, by rw [HF.out]; omega, rfl⟩
        case measure => simp [intOf]; omega
    · have hl : L.take k = L := List.take_of_length_le (by omega)
      rw [hl] at hle ⊢
      obtain ⟨n, hnn⟩ : ∃ n, n = L.flatten.length := ⟨_, rfl⟩
      rw [← hnn] at hle ⊢
      have HN := Lib.hid hnn
      clear hnn hl
      by_cases h1 : (100 : Int) < (L.length : Int)
      · go_wp2
        go_ret
        exact ⟨⟨true, rfl, fun h => by cases h⟩, rfl⟩
      · by_cases h2 : (3000 : Int) < (n : Int)
        · go_wp2
          go_ret
          exact ⟨⟨true, rfl, fun h => by cases h⟩, rfl⟩
        · go_wp2
          go_ret
          exact ⟨⟨_, rfl, fun _ => by rw [← HN.out]; omega⟩, rfl⟩
theorem whole_as (v : Value) (L : List (List UInt8)) (s : ByteArray) (w : World) (hv : strsAt w v L) (hn : L.length ≤ 1048576) (hs : L.flatten.length ≤ 1048576) (h : bs s = L.flatten) :
    Calls Try.prog 17 #[v] w fun e w' => e = .returned (.string s) ∧ w = w' := by
  have := whole_any v L w hv hn hs
  rw [← h, ba_eq] at this
  exact this
end Go.Proofs.Ytfajhjppbecjaaa
