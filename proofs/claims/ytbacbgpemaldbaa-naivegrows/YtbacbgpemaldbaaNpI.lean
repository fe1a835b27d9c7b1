/- A table's words as texts: the program's bytesOf and begin, walked. -/
import Derived.Test.YtbacbgpemaldbaaNpG
import Derived.Test.YtbacbgpemaldbaaMem
namespace Go.Proofs.Ytbacbgpemaldbaa
open Go.RowKit

def BoRel (s : ByteArray) (w : World) (g : Nat) (x : Value) (wr : World) : Prop := ∃ k : Nat, x = .int .i64 (k : Int) ∧ k ≤ s.size ∧ rowE textE wr g (npfill ⟨#[]⟩ (bytesT s) k) ∧ Below w.heap.size w wr
set_option maxRecDepth 100000 in
theorem bytesT_at (s : ByteArray) {k : Nat} (hk : k < s.size) (h : k < (bytesT s).length) : (bytesT s)[k] = ⟨#[s[k]]⟩ := by
  simp only [bytesT, List.getElem_map]
  rfl
set_option maxRecDepth 100000 in
set_option maxHeartbeats 4000000 in
theorem bytesOf_any (s : ByteArray) (w : World) (hs : s.size ≤ 1000000) : Calls Try.prog 29 #[.string s] w fun e w' => TxRet s w e w' := by
  obtain ⟨i0, hi, hz0, hz1, hz2⟩ := info_parts textE.info
  have hz2' : i0.bytes = 16 := hz2
  go_enter Try.func29, Try.ntmps29
  go_wp2_with (at_make; refine wpList_make_full _ rfl _ _ 34 rfl w.heap.size 9 i0 textE.zero 1 Try.underlying34 hi hz0 hz1 .i64 .i64 _ _ s.size rfl rfl rfl rfl (by rw [hz2']; omega) (by unfold maxLen; omega) (Nat.le_refl _) ?_; intro w1 hown1 hgr1)
  have HR1 : Hid (rowE textE w1 w.heap.size (List.replicate s.size ⟨#[]⟩)) := Lib.hid (rowE_made textE ⟨#[]⟩ rfl hown1)
  have HB1 : Hid (Below w.heap.size w w1) := Lib.hid ((Below.refl w.heap.size w).grown hgr1 (Nat.le_refl _) fun g hg => by cases hg)
  clear hown1 hgr1 hi hz0 hz1 hz2 hz2'
  obtain ⟨g, hg⟩ : ∃ g, w.heap.size = g := ⟨_, rfl⟩
  have HG : Hid (w.heap.size = g) := Lib.hid hg
  rw [hg] at HR1 ⊢
  clear hg
  go_loopw [10] (fun x wr => BoRel s w g x wr) (fun x _ => s.size - (intOf x).toNat)
  case atStart => exact ⟨0, rfl, Nat.zero_le _, by rw [npfill_zero, bytesT_len]; exact HR1.out, HB1.out⟩
  case round =>
    clear HR1 HB1
    obtain ⟨k, rfl, hk, hr, hb⟩ := hrel
    have HR := Lib.hid hr; have HB := Lib.hid hb
    clear hr hb
    have hlen := bytesT_len s
    by_cases hgo : k < s.size
    · have hgoI : (k : Int) < (s.size : Int) := by omega
      have hwk : IntKind.i64.wrap ((k : Int) + 1) = (k : Int) + 1 := IntWalk.i64_in _ (by omega)
      obtain ⟨c, hc⟩ : ∃ c, s[k] = c := ⟨_, rfl⟩
      have hconv := (lit_bytes wr [c] 1 (0, 0) rfl).text
      have HR2 : Hid (rowE textE (wr.alloc (.cells #[.int .u8 (c.toNat : Int)] 5)) g (npfill ⟨#[]⟩ (bytesT s) k)) := Lib.hid (HR.out.kept (Below.heap_alloc _ _ _ HR.out.lt))
      have HB2 : Hid (Below w.heap.size w (wr.alloc (.cells #[.int .u8 (c.toNat : Int)] 5))) := Lib.hid (HB.out.alloc HB.out.size _)
      replace hconv : (convert 66 9 (.slice (some ⟨wr.heap.size, 0, none⟩) 1 1)).run Try.prog (wr.alloc (.cells #[.int .u8 (c.toNat : Int)] 5)) = .ok (.string ⟨#[c]⟩) (wr.alloc (.cells #[.int .u8 (c.toNat : Int)] 5)) := hconv
      have hkl : k < (npfill (⟨#[]⟩ : ByteArray) (bytesT s) k).length := by rw [npfill_len (by omega)]; omega
      obtain ⟨z0, f0⟩ := HR2.out.cell (j := k) (u := .string ⟨#[]⟩) hkl rfl (by rw [npfill_at (by omega)]; rfl)
      have HST : Hid (BoRel s w g (.int .i64 ((k : Int) + 1)) ((wr.alloc (.cells #[.int .u8 (c.toNat : Int)] 5)).setCell ⟨g, k, none⟩ (.string ⟨#[c]⟩))) := Lib.hid ⟨k + 1, by simp, hgo, by
        rw [← npfill_step (by omega), bytesT_at s hgo, hc]
        exact HR2.out.put _ hkl rfl rfl, HB2.out.setCell (p := ⟨g, k, none⟩) (show w.heap.size ≤ g by rw [HG.out]; exact Nat.le_refl _) _⟩
      clear hkl hlen
      go_wp2
      go_roundw
      case rel => exact HST.out
      case measure => simp [intOf]; omega
    · have hgoI : ¬ (k : Int) < (s.size : Int) := by omega
      obtain rfl : k = s.size := by omega
      have hr := HR.out
      rw [← hlen, npfill_all] at hr
      have HE := Lib.hid (hr.own (b := w.heap.size) (by rw [HG.out]; exact Nat.le_refl _) (by rw [hlen]; unfold maxLen; omega))
      rw [hlen] at HE
      clear hr
      go_wp2
      go_ret
      exact ⟨_, rfl, HE.out, HB.out⟩
end Go.Proofs.Ytbacbgpemaldbaa
