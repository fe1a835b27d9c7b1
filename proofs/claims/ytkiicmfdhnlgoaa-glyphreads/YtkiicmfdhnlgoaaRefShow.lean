/- The contract of gluepotref02.Show. -/
import Derived.Test.YtkiicmfdhnlgoaaShow
namespace Go.Proofs.Ytkiicmfdhnlgoaa
open Go.RowKit

set_option maxHeartbeats 1000000 in
theorem refShow_any (s : ByteArray) (w : World) (hs : s.size ≤ 1048576) :
    Calls Try.prog 13 #[.string s] w fun e w' => e = .returned (.string ⟨(showL s.data.toList).toArray⟩) ∧ Below w.heap.size w w' := by
  obtain ⟨i0, hi, hz0, hz1, hz2⟩ := info_parts Try.info5
  go_enter Try.func13, Try.ntmps13
  go_wp2
  go_loopw [3, 4] (fun v i wr => ∃ k : Nat, k ≤ s.size ∧ i = .int .i64 k ∧ ownB wr w.heap.size 5 v (showL (s.data.toList.take k)) ∧ Below w.heap.size w wr)
     (fun _ i _ => s.size - (intOf i).toNat)
  case atStart => exact ⟨0, Nat.zero_le _, rfl, World.ownsRow_nil _ _ _ _, Below.refl _ _⟩
  case round =>
    obtain ⟨k, hk, rfl, hownr, hbel⟩ := hrel
    have hl : (showL (s.data.toList.take k)).length ≤ 2097152 := by have := showL_len (s.data.toList.take k); rw [take_len s k hk] at this; omega
    by_cases hlt : k < s.size
    · have hb : (s[k].toNat : Int) ≤ 255 := by have := s[k].toNat_lt; omega
      have hb0 : 0 ≤ (s[k].toNat : Int) := by omega
      have hg := sg_bd hb0 hb
      have hsz := hbel.size
      by_cases hlo : sg (s[k].toNat : Int) < 128
      · go_wp2_with (first | (go_at_call 10; refine (refSign_any _ _ hb0 hb).mono ?_; rintro e w' ⟨rfl, rfl⟩) | (at_builtin; refine wpList_append_lies _ rfl (.tmp 18) (.tmp 21) 35 rfl w.heap.size 5 i0 (.int .u8 0) 1 1 Try.underlying35 hi hz0 hz1 hz2 rfl (by decide) u3 _ (bcells (showL (s.data.toList.take k))) rfl (World.ownsRow.alloc hownr _) _ 1 1 [.int .u8 _] rfl rfl (cell_one_new _ _ _) (by intro u hu; simp at hu; subst hu; rfl) (by decide) (by unfold maxLen; omega) (by omega) (Nat.le_trans hsz (by simp)) _ rfl ?_; intro g cap w2 hown2 hgr2 hat2 hlt2))
        have hO := rune_one (by omega) (by omega) hown2
        have hB := (hbel.alloc hsz _).grown hgr2 (Nat.le_trans hsz (by simp)) (ownB.block_ge hownr)
        clear hown2 hgr2 hat2 hlt2
        go_roundw
        case rel => exact ⟨k + 1, by omega, by go_num, show_step hlt hO, hB⟩
        case measure => simp [intOf]; omega
      · go_wp2_with (first | (go_at_call 10; refine (refSign_any _ _ hb0 hb).mono ?_; rintro e w' ⟨rfl, rfl⟩) | (at_builtin; refine wpList_append_lies _ rfl (.tmp 23) (.tmp 32) 35 rfl w.heap.size 5 i0 (.int .u8 0) 1 1 Try.underlying35 hi hz0 hz1 hz2 rfl (by decide) u3 _ (bcells (showL (s.data.toList.take k))) rfl (World.ownsRow.alloc hownr _) _ 2 2 [.int .u8 _, .int .u8 _] rfl rfl (cell_two_new _ _ _ _) (by intro u hu; simp at hu; rcases hu with rfl | rfl <;> rfl) (by decide) (by unfold maxLen; omega) (by omega) (Nat.le_trans hsz (by simp)) _ rfl ?_; intro g cap w2 hown2 hgr2 hat2 hlt2))
        have hO := rune_two (by omega) (by omega) hown2
        have hB := (hbel.alloc hsz _).grown hgr2 (Nat.le_trans hsz (by simp)) (ownB.block_ge hownr)
        clear hown2 hgr2 hat2 hlt2
        go_roundw
        case rel => exact ⟨k + 1, by omega, by go_num, show_step hlt hO, hB⟩
        case measure => simp [intOf]; omega
    · have hc := hownr.text (P := Try.prog) 35 9 Try.underlying35 Try.underlying5 Try.underlying9
      go_wp2
      go_ret
      exact ⟨ret_text (by rw [take_all s k (by omega)]), hbel⟩
end Go.Proofs.Ytkiicmfdhnlgoaa
