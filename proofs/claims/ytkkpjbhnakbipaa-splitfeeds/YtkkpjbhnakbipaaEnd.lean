/- The contract of Splitter.End where a word is open. -/
import Derived.Test.YtkkpjbhnakbipaaNew
namespace Go.Proofs.Ytkkpjbhnakbipaa
open Go.RowKit

theorem bcells_at (l : List UInt8) {j : Nat} {u : Value} (h : (bcells l)[j]? = some u) : ∃ hj : j < l.length, u = .int .u8 (l[j].toNat : Int) := by
  have hj : j < l.length := by have := (List.getElem?_eq_some_iff.1 h).1; simpa [bcells] using this
  refine ⟨hj, ?_⟩
  simp [bcells, List.getElem?_eq_getElem hj] at h
  exact h.symm
theorem ownB.src {w : World} {base g n cap : Nat} {e : TypeId} {l : List UInt8} (h : ownB w base e (.slice (some ⟨g, 0, none⟩) n cap) l) : ∀ j u, (bcells l)[j]? = some u → w.cell? ((⟨g, 0, none⟩ : Addr).add j) = some u := by
  intro j u hu
  rcases h.2 with ⟨h0, _⟩ | ⟨g', cap', cur, hv, hb, hg, h1, h2, h3, h4⟩
  · cases h0
  · cases hv
    have hj : j < l.length := by have := (List.getElem?_eq_some_iff.1 hu).1; simpa [bcells] using this
    rw [add_zero_off, cell_of_row w g j cur e (0, 0) hg, ← hu, ← h4, Nat.mul_one, List.getElem?_take_of_lt hj]
    simp
theorem size5 : (Try.prog.info? 5).map (·.size) = some 1 := by
  obtain ⟨i0, hi, hz0, hz1, hz2⟩ := info_parts Try.info5
  rw [hi]; simp [hz1]
theorem run_copy_word {w : World} {B base base' g cap : Nat} {l : List UInt8} {xs : List Value} (ty : TypeId)
    (hown : w.ownsRow base 5 1 (.slice (some ⟨B, 0, none⟩) l.length l.length) l.length xs) (hv : ownB w base' 5 (.slice (some ⟨g, 0, none⟩) l.length cap) l) :
    ∃ w', (Builtin.copy_ #[35, 35] ty #[.slice (some ⟨B, 0, none⟩) l.length l.length, .slice (some ⟨g, 0, none⟩) l.length cap]).run Try.prog w = .ok (.int .i64 (l.length : Int)) w' ∧
      ownB w' base 5 (.slice (some ⟨B, 0, none⟩) l.length l.length) l ∧ w.grownBy w' (some B) := by
  rcases hown.2 with ⟨h0, _⟩ | ⟨g', cap', cur, hv', hb, hg, h1, h2, h3, h4⟩
  · cases h0
  · cases hv'
    have hsz : cur.size = l.length := by rw [h3]; simp
    refine ⟨_, run_copy_row Try.prog w 35 35 ty 5 B 0 l.length l.length ⟨g, 0, none⟩ l.length cap cur 5 (bcells l) Try.underlying35 size5 hg (by simp [bcells]) (ownB.src hv) (by rw [bcells_len]; omega) (bcells_one l) |>.trans (by rw [bcells_len]; rfl), ?_, ?_⟩
    · have hdrop : cur.toList.take 0 ++ bcells l ++ cur.toList.drop (0 + l.length) = bcells l := by
        rw [List.take_zero, List.nil_append, Nat.zero_add, List.drop_of_length_le (by simp; omega), List.append_nil]
      rw [hdrop]
      exact ⟨by simp [bcells], .inr ⟨B, l.length, (bcells l).toArray, rfl, hb, setRow_heap w B cur _ 5 _ hg, Nat.le_refl _, h2, by simp [bcells], by simp [bcells_len, List.take_of_length_le]⟩⟩
    · exact ⟨rfl, rfl, rfl, by simp [World.setRow], fun k _ hne => setRow_other w B k _ (fun e => hne (by rw [e]))⟩

set_option maxHeartbeats 400000 in
theorem end_word (w : World) (base K lim : Nat) (v : Value) (o : List UInt8) (b : Bool) (h : Spl w base K lim v o b) (ho : o ≠ []) (hl : o.length ≤ 1048576) :
    Calls Try.prog 19 #[.pointer (some ⟨K, 0, none⟩)] w fun e w' => ∃ v' B, e = .returned (.slice (some ⟨B, 0, none⟩) 1 1) ∧ w.heap.size ≤ B ∧ w'.heap[B]? = some (.cells #[tx o] 9 (0, 0)) ∧
      Spl w' base K lim v' [] b ∧ v'.ownBlock = v.ownBlock ∧ Kept (mine K v) w w' := by
  obtain ⟨i0, hi, hz0, hz1, hz2⟩ := info_parts Try.info5
  have hpos : 0 < o.length := List.length_pos_iff.2 ho
  have hbase := Nat.le_of_lt (Nat.lt_of_le_of_lt h.1 h.lt)
  obtain ⟨g, cap, rfl, hbg, hgw⟩ := World.ownsRow.form h.2.2 hpos
  obtain ⟨_, h1, _, _, f1, _⟩ := h.cells
  have hK := h.lt
  have HH := Lib.hid h; clear h
  have HO := Lib.hid ho; clear ho
  have HP := Lib.hid hpos; clear hpos
  have hne : ¬ (o.length : Int) = 0 := by have := HP.out; omega
  go_enter Try.func19, Try.ntmps19
  go_wp2_with (first
    | (go_at_call 18; refine (open_any _ base K lim _ o b HH.out).mono ?_; rintro e w' ⟨rfl, rfl⟩)
    | (at_make; refine wpList_make_full _ rfl _ _ 35 rfl w.heap.size 5 i0 (.int .u8 0) 1 Try.underlying35 hi hz0 hz1 .i64 .i64 _ _ o.length rfl rfl rfl rfl (by rw [hz2]; omega) (by unfold maxLen; omega) (Nat.le_refl _) ?_
       intro w1 hown hgr
       have h11 : w1.cell? ⟨K, 1, none⟩ = some (.slice (some ⟨g, 0, none⟩) o.length cap) := hgr.cell h1 (by simp)
       have hS1 : Hid (Spl w1 base K lim (.slice (some ⟨g, 0, none⟩) o.length cap) o b) := Lib.hid (HH.out.kept fun k hk => hgr.block k (HH.out.mine_lt k hk) (by simp))
       obtain ⟨w2, hcp, hown2, hgr2⟩ := run_copy_word 3 hown hS1.out.2.2
       have hS2 : Hid (Spl w2 base K lim (.slice (some ⟨g, 0, none⟩) o.length cap) o b) := Lib.hid (hS1.out.kept fun k hk => hgr2.block k (hS1.out.mine_lt k hk) (by have := HH.out.mine_lt k hk; intro e; simp at e; omega))
       obtain ⟨_, h12, _, _, f12, _⟩ := hS2.out.cells
       have hS3 := Lib.hid (hS2.out.store (ownB.cut hS2.out.2.2))
       have hO3 := Lib.hid (ownB.kept (w' := w2.setCell ⟨K, 1, none⟩ (.slice (some ⟨g, 0, none⟩) 0 cap)) hown2 fun k hk => Below.heap_setCell _ _ _ _ (by simp [Value.ownBlock] at hk; subst hk; show w.heap.size ≠ K; omega))
       have hc := ownB.text (P := Try.prog) hO3.out 35 9 Try.underlying35 Try.underlying5 Try.underlying9
       have hG1 := Lib.hid hgr
       have hG2 := Lib.hid hgr2
       clear hown hgr hown2 hgr2))
  go_ret
  have hz := Nat.le_trans hG1.out.size hG2.out.size
  refine ⟨.slice (some ⟨g, 0, none⟩) 0 cap, w2.heap.size, rfl, hz, ?_, ?_, rfl, ?_⟩
  · have := heap_alloc_new (w2.setCell ⟨K, 1, none⟩ (.slice (some ⟨g, 0, none⟩) 0 cap)) (.cells #[tx o] 9)
    rw [World.size_setCell] at this
    exact this
  · exact hS3.out.kept fun k hk => Below.heap_alloc _ _ _ (hS3.out.mine_lt k hk)
  · refine Kept.alloc (Kept.setCell (((Kept.refl _ w).grown hG1.out (by simp)).grown hG2.out ?_) _ _ fun _ => .inl rfl) _
    intro k hk hlt
    simp at hk; omega
end Go.Proofs.Ytkkpjbhnakbipaa
