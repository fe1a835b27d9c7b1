/- A splitter in memory; the contracts of split.New, Splitter.Open, Splitter.End. -/
import Derived.Test.YtfajhjppbecjaaaMem
import Derived.Test.YtfajhjppbecjaaaWords
namespace Go.Proofs.Ytfajhjppbecjaaa
open Go.RowKit

/-! A splitter. -/
/-- In block K lies a splitter with the limit lim, whose open word, in v, is o; b: a word was too long. -/
def Spl (w : World) (base K lim : Nat) (v : Value) (o : List UInt8) (b : Bool) : Prop :=
  base ≤ K ∧ w.heap[K]? = some (.cells #[.int .i64 lim, v, .bool b] 67 (0, 0)) ∧ ownB w base 5 v o
theorem Spl.cells {w : World} {base K lim : Nat} {v : Value} {o : List UInt8} {b : Bool} (h : Spl w base K lim v o b) :
    w.cell? ⟨K, 0, none⟩ = some (.int .i64 lim) ∧ w.cell? ⟨K, 1, none⟩ = some v ∧ w.cell? ⟨K, 2, none⟩ = some (.bool b) ∧ w.frozen? ⟨K, 0, none⟩ = false ∧ w.frozen? ⟨K, 1, none⟩ = false ∧ w.frozen? ⟨K, 2, none⟩ = false := by
  obtain ⟨_, h, _⟩ := h
  refine ⟨?_, ?_, ?_, ?_, ?_, ?_⟩
  · rw [cell_of_row w K 0 _ 67 (0, 0) h]; rfl
  · rw [cell_of_row w K 1 _ 67 (0, 0) h]; rfl
  · rw [cell_of_row w K 2 _ 67 (0, 0) h]; rfl
  all_goals (unfold World.frozen?; rw [h]; simp)
theorem Spl.lt {w : World} {base K lim : Nat} {v : Value} {o : List UInt8} {b : Bool} (h : Spl w base K lim v o b) : K < w.heap.size := (Array.getElem?_eq_some_iff.1 h.2.1).1
theorem Spl.mine_ge {w : World} {base K lim : Nat} {v : Value} {o : List UInt8} {b : Bool} (h : Spl w base K lim v o b) : ∀ k, mine K v k → base ≤ k := by
  intro k hk
  rcases hk with rfl | hk
  · exact h.1
  · exact (ownB.lt h.2.2 k hk.symm).1
theorem Spl.mine_lt {w : World} {base K lim : Nat} {v : Value} {o : List UInt8} {b : Bool} (h : Spl w base K lim v o b) : ∀ k, mine K v k → k < w.heap.size := by
  intro k hk
  rcases hk with rfl | hk
  · exact h.lt
  · exact (ownB.lt h.2.2 k hk.symm).2
theorem Spl.ne {w : World} {base K lim : Nat} {v : Value} {o : List UInt8} {b : Bool} (h : Spl w base K lim v o b) : some K ≠ v.ownBlock := by
  intro e
  obtain ⟨cs, hc⟩ := ownB.block h.2.2 K e.symm
  rw [h.2.1] at hc
  cases hc
theorem Spl.kept {w w' : World} {base K lim : Nat} {v : Value} {o : List UInt8} {b : Bool} (h : Spl w base K lim v o b) (hk : ∀ k, mine K v k → w'.heap[k]? = w.heap[k]?) : Spl w' base K lim v o b :=
  ⟨h.1, by rw [hk K (.inl rfl)]; exact h.2.1, ownB.kept h.2.2 fun g hg => hk g (.inr hg.symm)⟩
/-- The open word's field written: a new one. -/
theorem Spl.store {w : World} {base K lim : Nat} {v v' : Value} {o o' : List UInt8} {b : Bool} (h : Spl w base K lim v o b) (hv : ownB w base 5 v' o') : Spl (w.setCell ⟨K, 1, none⟩ v') base K lim v' o' b := by
  refine ⟨h.1, ?_, ?_⟩
  · rw [heap_setCell_at h.2.1]; rfl
  · refine ownB.kept hv fun g hg => Below.heap_setCell _ _ _ _ ?_
    intro e
    obtain ⟨cs, hc⟩ := ownB.block hv g hg
    have e' : g = K := e
    rw [e', h.2.1] at hc
    cases hc
theorem Spl.fail {w : World} {base K lim : Nat} {v : Value} {o : List UInt8} {b b' : Bool} (h : Spl w base K lim v o b) : Spl (w.setCell ⟨K, 2, none⟩ (.bool b')) base K lim v o b' := by
  refine ⟨h.1, ?_, ?_⟩
  · rw [heap_setCell_at h.2.1]; rfl
  · refine ownB.kept h.2.2 fun g hg => Below.heap_setCell _ _ _ _ ?_
    intro e
    have e' : g = K := e
    exact h.ne (by rw [← e', hg])
theorem splNew_low (n : Int) (w : World) (_h0 : -9223372036854775808 ≤ n) (h1 : n < 1) :
    Calls Try.prog 22 #[.int .i64 n] w fun e w' => e = .returned (.pointer (some ⟨w.heap.size, 0, none⟩)) ∧ w' = w.alloc (.cells #[.int .i64 1, .slice none 0 0, .bool false] 67) := by
  go_enter Try.func22, Try.ntmps22
  go_wp2
  go_ret
  exact ⟨rfl, rfl⟩
theorem splNew_high (n : Int) (w : World) (h0 : 1 ≤ n) (h1 : n ≤ 9223372036854775807) :
    Calls Try.prog 22 #[.int .i64 n] w fun e w' => e = .returned (.pointer (some ⟨w.heap.size, 0, none⟩)) ∧ w' = w.alloc (.cells #[.int .i64 n, .slice none 0 0, .bool false] 67) := by
  go_enter Try.func22, Try.ntmps22
  go_wp2
  go_ret
  exact ⟨rfl, rfl⟩
theorem splNew_spl (w : World) (base lim : Nat) (hb : base ≤ w.heap.size) : Spl (w.alloc (.cells #[.int .i64 lim, .slice none 0 0, .bool false] 67)) base w.heap.size lim (.slice none 0 0) [] false :=
  ⟨hb, heap_alloc_new w _, World.ownsRow_nil _ _ _ _⟩
/-- A new splitter of the limit n, or 1. -/
theorem splNew_any (n : Int) (lim : Nat) (w : World) (h0 : -9223372036854775808 ≤ n) (h1 : n ≤ 9223372036854775807) (hl : (lim : Int) = max n 1) :
    Calls Try.prog 22 #[.int .i64 n] w fun e w' => e = .returned (.pointer (some ⟨w.heap.size, 0, none⟩)) ∧ w' = w.alloc (.cells #[.int .i64 lim, .slice none 0 0, .bool false] 67) := by
  by_cases h : n < 1
  · have : (lim : Int) = 1 := by omega
    rw [this]; exact splNew_low n w h0 h
  · have : (lim : Int) = n := by omega
    rw [this]; exact splNew_high n w (by omega) h1
theorem open_nil (w : World) : Calls Try.prog 27 #[.pointer none] w fun e w' => e = .returned (.int .i64 0) ∧ w = w' := by
  go_enter Try.func27, Try.ntmps27
  go_wp2
  go_ret
  exact ⟨rfl, rfl⟩
theorem open_any (w : World) (base K lim : Nat) (v : Value) (o : List UInt8) (b : Bool) (h : Spl w base K lim v o b) :
    Calls Try.prog 27 #[.pointer (some ⟨K, 0, none⟩)] w fun e w' => e = .returned (.int .i64 (o.length : Int)) ∧ w = w' := by
  obtain ⟨a, cap, rfl⟩ := ownB.form h.2.2
  obtain ⟨_, h1, _⟩ := h.cells
  clear h
  go_enter Try.func27, Try.ntmps27
  go_wp2
  go_ret
  exact ⟨rfl, rfl⟩
theorem end_nil (w : World) : Calls Try.prog 25 #[.pointer none] w fun e w' => e = .returned (.slice none 0 0) ∧ w = w' := by
  go_enter Try.func25, Try.ntmps25
  go_wp2_with (go_at_call 27; refine (open_nil _).mono ?_; rintro e w' ⟨rfl, rfl⟩)
  go_ret
  exact ⟨rfl, rfl⟩
theorem end_none (w : World) (base K lim : Nat) (v : Value) (b : Bool) (h : Spl w base K lim v [] b) :
    Calls Try.prog 25 #[.pointer (some ⟨K, 0, none⟩)] w fun e w' => e = .returned (.slice none 0 0) ∧ w = w' := by
  go_enter Try.func25, Try.ntmps25
  go_wp2_with (go_at_call 27; refine (open_any _ base K lim v [] b h).mono ?_; rintro e w' ⟨rfl, rfl⟩)
  go_ret
  exact ⟨rfl, rfl⟩
set_option maxHeartbeats 400000 in
theorem end_word (w : World) (base K lim : Nat) (v : Value) (o : List UInt8) (b : Bool) (h : Spl w base K lim v o b) (ho : o ≠ []) (hl : o.length ≤ 1048576) :
    Calls Try.prog 25 #[.pointer (some ⟨K, 0, none⟩)] w fun e w' => ∃ v' B, e = .returned (.slice (some ⟨B, 0, none⟩) 1 1) ∧ w.heap.size ≤ B ∧ w'.heap[B]? = some (.cells #[tx o] 9 (0, 0)) ∧
      Spl w' base K lim v' [] b ∧ v'.ownBlock = v.ownBlock ∧ Kept (mine K v) w w' := by
  obtain ⟨i0, hi, hz0, hz1, hz2⟩ := info_parts Try.info5
  have hpos : 0 < o.length := List.length_pos_iff.2 ho
  have hbase := Nat.le_of_lt (Nat.lt_of_le_of_lt h.1 h.lt)
  obtain ⟨g, cap, rfl, hbg, hgw⟩ := World.ownsRow.form h.2.2 hpos
  obtain ⟨_, h1, _, _, f1, _⟩ := h.cells
  have hK := h.lt
  have HH := Lib.hid h; clear h
  have HO := Lib.hid ho; clear ho
  have HP := Lib.hid hpos; clear hpos
  have hne : ¬ (o.length : Int) = 0 := by have := HP.out; omega
  go_enter Try.func25, Try.ntmps25
  go_wp2_with (first
    | (go_at_call 27; refine (open_any _ base K lim _ o b HH.out).mono ?_; rintro e w' ⟨rfl, rfl⟩)
    | (at_make; refine wpList_make_full _ rfl _ _ 58 rfl w.heap.size 5 i0 (.int .u8 0) 1 Try.underlying58 hi hz0 hz1 .i64 .i64 _ _ o.length rfl rfl rfl rfl (by rw [hz2]; omega) (by unfold maxLen; omega) (Nat.le_refl _) ?_
       intro w1 hown hgr
       have h11 : w1.cell? ⟨K, 1, none⟩ = some (.slice (some ⟨g, 0, none⟩) o.length cap) := hgr.cell h1 (by simp)
       have hS1 : Hid (Spl w1 base K lim (.slice (some ⟨g, 0, none⟩) o.length cap) o b) := Lib.hid (HH.out.kept fun k hk => hgr.block k (HH.out.mine_lt k hk) (by simp))
       obtain ⟨w2, hcp, hown2, hgr2⟩ := run_copy_word 3 hown hS1.out.2.2
       have hS2 : Hid (Spl w2 base K lim (.slice (some ⟨g, 0, none⟩) o.length cap) o b) := Lib.hid (hS1.out.kept fun k hk => hgr2.block k (hS1.out.mine_lt k hk) (by have := HH.out.mine_lt k hk; intro e; simp at e; omega))
       obtain ⟨_, h12, _, _, f12, _⟩ := hS2.out.cells
       have hS3 := Lib.hid (hS2.out.store (ownB.cut hS2.out.2.2))
       have hO3 := Lib.hid (ownB.kept (w' := w2.setCell ⟨K, 1, none⟩ (.slice (some ⟨g, 0, none⟩) 0 cap)) hown2 fun k hk => Below.heap_setCell _ _ _ _ (by simp [Value.ownBlock] at hk; subst hk; show w.heap.size ≠ K; omega))
       have hc := ownB.text (P := Try.prog) hO3.out 58 9 Try.underlying58 Try.underlying5 Try.underlying9
       have hG1 := Lib.hid hgr
       have hG2 := Lib.hid hgr2
       clear hown hgr hown2 hgr2))
  go_ret
  have hz := Nat.le_trans hG1.out.size hG2.out.size
  refine ⟨.slice (some ⟨g, 0, none⟩) 0 cap, w2.heap.size, rfl, hz, ?_, ?_, rfl, ?_⟩
  · have := heap_alloc_new (w2.setCell ⟨K, 1, none⟩ (.slice (some ⟨g, 0, none⟩) 0 cap)) (.cells #[tx o] 9)
    rw [World.size_setCell] at this
    exact this
  · exact hS3.out.kept fun k hk => Below.heap_alloc _ _ _ (hS3.out.mine_lt k hk)
  · refine Kept.alloc (Kept.setCell (((Kept.refl _ w).grown hG1.out (by simp)).grown hG2.out ?_) _ _ fun _ => .inl rfl) _
    intro k hk hlt
    simp at hk; omega
end Go.Proofs.Ytfajhjppbecjaaa
