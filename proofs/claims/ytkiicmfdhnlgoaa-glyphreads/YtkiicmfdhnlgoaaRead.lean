/- The contract of glyph.Read. -/
import Derived.Test.YtkiicmfdhnlgoaaSpell
import Derived.Test.YtkiicmfdhnlgoaaByte
namespace Go.Proofs.Ytkiicmfdhnlgoaa
open Go.RowKit

/-- The text whose signs s is, and true; none and false: it is none's. -/
def ReadOf (s : ByteArray) (l : List UInt8) (b : Bool) : Prop := (b = true ∧ showL l = s.data.toList) ∨ (b = false ∧ l = [] ∧ ∀ m, showL m ≠ s.data.toList)

def ReadRel (s : ByteArray) (w : World) (K : Nat) (v : Value) (wr : World) : Prop :=
  ∃ (pos : Nat) (l : List UInt8), pos ≤ s.size ∧ l.length ≤ pos ∧ showL l = s.data.toList.take pos ∧ wr.heap[K]? = some (.stringIter s pos) ∧ ownB wr w.heap.size 5 v l ∧ Below w.heap.size w wr

theorem byte_yes (r : Int) (w : World) (h0 : -2147483648 ≤ r) (h1 : r ≤ 2147483647) (g : isSg r = true) :
    Calls Try.prog 7 #[.int .i32 r] w fun e w' => e = .returned (.tuple #[.int .u8 (by' r), .bool true]) ∧ w = w' :=
  (byte_any r w h0 h1).mono fun e w' ⟨he, hw⟩ => ⟨by rw [he, g], hw⟩
theorem byte_nay (r : Int) (w : World) (h0 : -2147483648 ≤ r) (h1 : r ≤ 2147483647) (g : isSg r = false) :
    Calls Try.prog 7 #[.int .i32 r] w fun e w' => e = .returned (.tuple #[.int .u8 0, .bool false]) ∧ w = w' :=
  (byte_any r w h0 h1).mono fun e w' ⟨he, hw⟩ => ⟨by rw [he, g, by_no g], hw⟩

theorem own_sign {w : World} {base : Nat} {v : Value} {l : List UInt8} {r : Nat} (h : w.ownsRow base 5 1 v (l.length + 1) (bcells l ++ [.int .u8 (by' (r : Int))])) : ownB w base 5 v (l ++ [byB r]) := by
  unfold ownB
  rw [List.length_append, bcells_append]
  have e : bcells [byB r] = [.int .u8 (by' (r : Int))] := by simp only [bcells, List.map_cons, List.map_nil, byB_nat]
  rw [e]; exact h

set_option maxHeartbeats 1000000 in
theorem read_any (s : ByteArray) (w : World) (hs : s.size ≤ 1048576) :
    Calls Try.prog 12 #[.string s] w fun e w' => ∃ l b, e = .returned (.tuple #[.string ⟨l.toArray⟩, .bool b]) ∧ ReadOf s l b ∧ Below w.heap.size w w' := by
  obtain ⟨i0, hi, hz0, hz1, hz2⟩ := info_parts Try.info5
  go_enter Try.func12, Try.ntmps12
  go_wp2_with (at_make; refine wpList_make_own _ rfl _ _ 35 rfl w.heap.size 5 i0 (.int .u8 0) 1 Try.underlying35 hi hz0 hz1 .i64 .i64 _ s.size rfl rfl (by omega) (by rw [hz2]; omega) (by unfold maxLen; omega) (Nat.le_refl _) ?_; intro w1 hown hgr)
  have hw1 : Below w.heap.size w w1 := (Below.refl _ _).grown hgr (Nat.le_refl _) (by simp)
  have hK := hw1.size
  go_loopw [4] (fun v wr => ReadRel s w w1.heap.size v wr) (fun _ wr => s.size - wr.iterPos w1.heap.size)
  case atStart => exact ⟨0, [], Nat.zero_le _, Nat.le_refl _, rfl, World.iter_heap _ _ _, World.ownsRow.alloc hown _, hw1.alloc hw1.size _⟩
  case round =>
    obtain ⟨pos, l, hpos, hll, hsh, hit, hownr, hbel⟩ := hrel
    have hsz := hbel.size
    by_cases hp : pos < s.size
    · have hnx : ∀ ty, (Instr.next (.pointer (some ⟨w1.heap.size, 0, none⟩)) true ty).run Try.prog wr = _ := fun ty => Lib.run_next_any_at wr w1.heap.size s pos ty hit hp
      obtain ⟨hyes, hno⟩ := dec_step hsh hp
      have hle := decode_le s pos
      have hwd := Lib.decode_width_pos s pos hp
      have hit2 := Lib.iterAt_heap wr w1.heap.size s pos (pos + (Utf8.decode s pos).2) hit
      have hown2 := own_iterAt hownr hit (pos + (Utf8.decode s pos).2)
      have hbw2 := Lib.below_iterAt hbel (k := w1.heap.size) hK s (pos + (Utf8.decode s pos).2)
      have HI := Lib.hid hit2; clear hit2
      have HI0 := Lib.hid hit; clear hit
      cases hd : isSg ((Utf8.decode s pos).1 : Int)
      · have HN := Lib.hid (hno hd)
        have HD := Lib.hid hd
        clear hyes hno hd hsh
        go_wp2_with (go_at_call 7; refine (byte_nay _ _ (by omega) (by omega) HD.out).mono ?_; rintro e w' ⟨rfl, rfl⟩)
        go_ret2
        exact ⟨[], false, rfl, .inr ⟨rfl, rfl, HN.out⟩, hbw2⟩
      · obtain ⟨hy1, hy2⟩ := hyes hd
        have HY := Lib.hid hy1
        have HD := Lib.hid hd
        clear hyes hno hd hsh hy1
        go_wp2_with (first | (go_at_call 7; refine (byte_yes _ _ (by omega) (by omega) HD.out).mono ?_; rintro e w' ⟨rfl, rfl⟩) | (at_builtin; refine wpList_append_lies _ rfl (.tmp 24) (.tmp 26) 35 rfl w.heap.size 5 i0 (.int .u8 0) 1 1 Try.underlying35 hi hz0 hz1 hz2 rfl (by decide) u4 _ (bcells l) rfl (World.ownsRow.alloc hown2 _) _ 1 1 [.int .u8 _] rfl rfl (cell_one_new _ _ _) (by intro u hu; simp at hu; subst hu; rfl) (by decide) (by unfold maxLen; omega) (by omega) (Nat.le_trans hbw2.size (by simp)) _ rfl ?_; intro g cap w2 hown3 hgr3 hat3 hlt3))
        have hI2 := iter_grown hgr3 (iter_alloc _ HI.out) (own_iter_ne hown2 HI.out)
        have hO := own_sign hown3
        have hB := (hbw2.alloc hbw2.size _).grown hgr3 (Nat.le_trans hbw2.size (by simp)) (ownB.block_ge hown2)
        go_roundw
        case rel => exact ⟨pos + (Utf8.decode s pos).2, _, hy2, by simp; omega, HY.out, hI2, hO, hB⟩
        case measure => rw [iterPos_of hI2, iterPos_of HI0.out]; omega
    · have hnx : ∀ ty, (Instr.next (.pointer (some ⟨w1.heap.size, 0, none⟩)) true ty).run Try.prog wr = _ := fun ty => Lib.run_next_end_at wr w1.heap.size s pos ty hit hp
      have hc := ownB.text (P := Try.prog) hownr 35 9 Try.underlying35 Try.underlying5 Try.underlying9
      have HS : Hid (showL l = s.data.toList) := Lib.hid (by rw [hsh, take_all s pos (by omega)])
      have HI0 := Lib.hid hit; clear hit hsh
      go_wp2
      go_ret2
      exact ⟨l, true, rfl, .inl ⟨rfl, HS.out⟩, hbel⟩
end Go.Proofs.Ytkiicmfdhnlgoaa
