/- The contract of utf8.AppendRune over a row of the caller's own, for a rune below 2,048. -/
import Derived.Test.YtkiicmfdhnlgoaaSign
import Derived.Test.YtkiicmfdhnlgoaaBytes
import Derived.Deep.RegionLaw
import Derived.Laws.BitsLemmas
namespace Go.Proofs.Ytkiicmfdhnlgoaa
open Go.RowKit

/-- The bytes of a rune below 2,048. -/
def enc (r : Nat) : List UInt8 := if r < 128 then [UInt8.ofNat r] else [UInt8.ofNat (192 + r / 64), UInt8.ofNat (128 + r % 64)]
theorem enc_lo {r : Nat} (h : r < 128) : enc r = [UInt8.ofNat r] := by simp [enc, h]
theorem enc_hi {r : Nat} (h : 128 ≤ r) : enc r = [UInt8.ofNat (192 + r / 64), UInt8.ofNat (128 + r % 64)] := by simp [enc]; omega
theorem Try.info5 : (Try.prog.info? 5).map (fun i => (i.zero, i.size, i.bytes)) = some (some (.int .u8 0), 1, 1) := by kernel_rfl

theorem enc_len (r : Nat) : (enc r).length ≤ 2 := by unfold enc; split <;> simp
theorem rune_two {r : Int} (h0 : 128 ≤ r) (h1 : r < 2048) {w : World} {base : Nat} {v : Value} {l : List UInt8}
    (h : w.ownsRow base 5 1 v (l.length + 2) (bcells l ++ [.int .u8 (192 + r / 64), .int .u8 (128 + r % 64)])) : ownB w base 5 v (l ++ enc r.toNat) := by
  unfold ownB
  rw [enc_hi (by omega), List.length_append, bcells_append]
  have e : bcells [UInt8.ofNat (192 + r.toNat / 64), UInt8.ofNat (128 + r.toNat % 64)] = [.int .u8 (192 + r / 64), .int .u8 (128 + r % 64)] := by
    have a : (UInt8.ofNat (192 + r.toNat / 64)).toNat = 192 + r.toNat / 64 := by simp; omega
    have b : (UInt8.ofNat (128 + r.toNat % 64)).toNat = 128 + r.toNat % 64 := by simp; omega
    simp only [bcells, List.map_cons, List.map_nil, a, b]
    rw [show ((192 + r.toNat / 64 : Nat) : Int) = 192 + r / 64 from by omega, show ((128 + r.toNat % 64 : Nat) : Int) = 128 + r % 64 from by omega]
  rw [e]; exact h
theorem rune_one {r : Int} (h0 : 0 ≤ r) (h1 : r < 128) {w : World} {base : Nat} {v : Value} {l : List UInt8}
    (h : w.ownsRow base 5 1 v (l.length + 1) (bcells l ++ [.int .u8 r])) : ownB w base 5 v (l ++ enc r.toNat) := by
  unfold ownB
  rw [enc_lo (by omega), List.length_append, bcells_append]
  have e : bcells [UInt8.ofNat r.toNat] = [.int .u8 r] := by
    have a : (UInt8.ofNat r.toNat).toNat = r.toNat := by simp; omega
    simp only [bcells, List.map_cons, List.map_nil, a]
    rw [show (r.toNat : Int) = r from by omega]
  rw [e]; exact h

set_option maxHeartbeats 400000 in
theorem runeHi_any (r : Int) (h0 : 128 ≤ r) (h1 : r < 2048) (w : World) (base : Nat) (v : Value) (l : List UInt8) (hb : base ≤ w.heap.size) (hl : l.length ≤ 2097152) (ho : ownB w base 5 v l) :
    Calls Try.prog 18 #[v, .int .i32 r] w fun e w' => ∃ v', e = .returned v' ∧ ownB w' base 5 v' (l ++ enc r.toNat) ∧ Below base w w' := by
  obtain ⟨i0, hi, hz0, hz1, hz2⟩ := info_parts Try.info5
  go_enter Try.func18, Try.ntmps18
  go_wp2_with (at_builtin; refine wpList_append_lies _ rfl (.tmp 14) (.tmp 23) 35 rfl base 5 i0 (.int .u8 0) 1 1 Try.underlying35 hi hz0 hz1 hz2 rfl (by decide) v _ (bcells l) rfl (World.ownsRow.alloc ho _) _ 2 2 [.int .u8 _, .int .u8 _] rfl rfl (cell_two_new _ _ _ _) (by intro u hu; simp at hu; rcases hu with rfl | rfl <;> rfl) (by decide) (by unfold maxLen; omega) (by omega) (Nat.le_trans hb (by simp)) _ rfl ?_; intro g cap w2 hown2 hgr2 hat2 hlt2)
  have hO := rune_two h0 h1 hown2
  have hB := ((Below.refl base w).alloc hb _).grown hgr2 (Nat.le_trans hb (by simp)) (ownB.block_ge ho)
  go_ret
  exact ⟨_, rfl, hO, hB⟩
set_option maxHeartbeats 400000 in
theorem rune_lo (r : Int) (h0 : 0 ≤ r) (h1 : r < 128) (w : World) (base : Nat) (v : Value) (l : List UInt8) (hb : base ≤ w.heap.size) (hl : l.length ≤ 2097152) (ho : ownB w base 5 v l) :
    Calls Try.prog 17 #[v, .int .i32 r] w fun e w' => ∃ v', e = .returned v' ∧ ownB w' base 5 v' (l ++ enc r.toNat) ∧ Below base w w' := by
  obtain ⟨i0, hi, hz0, hz1, hz2⟩ := info_parts Try.info5
  go_enter Try.func17, Try.ntmps17
  go_wp2_with (at_builtin; refine wpList_append_lies _ rfl (.tmp 8) (.tmp 11) 35 rfl base 5 i0 (.int .u8 0) 1 1 Try.underlying35 hi hz0 hz1 hz2 rfl (by decide) v _ (bcells l) rfl (World.ownsRow.alloc ho _) _ 1 1 [.int .u8 _] rfl rfl (cell_one_new _ _ _) (by intro u hu; simp at hu; subst hu; rfl) (by decide) (by unfold maxLen; omega) (by omega) (Nat.le_trans hb (by simp)) _ rfl ?_; intro g cap w2 hown2 hgr2 hat2 hlt2)
  have hO := rune_one h0 h1 hown2
  have hB := ((Below.refl base w).alloc hb _).grown hgr2 (Nat.le_trans hb (by simp)) (ownB.block_ge ho)
  go_ret
  exact ⟨_, rfl, hO, hB⟩
set_option maxHeartbeats 400000 in
theorem rune_hi (r : Int) (h0 : 128 ≤ r) (h1 : r < 2048) (w : World) (base : Nat) (v : Value) (l : List UInt8) (hb : base ≤ w.heap.size) (hl : l.length ≤ 2097152) (ho : ownB w base 5 v l) :
    Calls Try.prog 17 #[v, .int .i32 r] w fun e w' => ∃ v', e = .returned v' ∧ ownB w' base 5 v' (l ++ enc r.toNat) ∧ Below base w w' := by
  go_enter Try.func17, Try.ntmps17
  go_wp2_with (go_at_call 18; refine (runeHi_any r h0 h1 _ base v l hb hl ho).mono ?_; rintro e w' ⟨v', rfl, hO, hB⟩)
  go_ret
  exact ⟨_, rfl, hO, hB⟩
theorem rune_any (r : Int) (h0 : 0 ≤ r) (h1 : r < 2048) (w : World) (base : Nat) (v : Value) (l : List UInt8) (hb : base ≤ w.heap.size) (hl : l.length ≤ 2097152) (ho : ownB w base 5 v l) :
    Calls Try.prog 17 #[v, .int .i32 r] w fun e w' => ∃ v', e = .returned v' ∧ ownB w' base 5 v' (l ++ enc r.toNat) ∧ Below base w w' := by
  by_cases h : r < 128
  · exact rune_lo r h0 h w base v l hb hl ho
  · exact rune_hi r (by omega) h1 w base v l hb hl ho
end Go.Proofs.Ytkiicmfdhnlgoaa
