/- The contract of gluepotref03.Words. -/
import Derived.Test.YtfajhjppbecjaaaFeed
namespace Go.Proofs.Ytfajhjppbecjaaa
open Go.RowKit

theorem rgap_yes (c : UInt8) (w : World) (h : gapB c = true) : Calls Try.prog 23 #[.int .u8 (c.toNat : Int)] w fun e w' => e = .returned (.bool true) ∧ w = w' := by
  rw [← h]; exact refGap_any c w
theorem rgap_no (c : UInt8) (w : World) (h : gapB c = false) : Calls Try.prog 23 #[.int .u8 (c.toNat : Int)] w fun e w' => e = .returned (.bool false) ∧ w = w' := by
  rw [← h]; exact refGap_any c w
theorem cut_text (s : ByteArray) (k f : Nat) (hk : k ≤ s.size) (hf : f = k - (opn ((bs s).take k)).length) : s.extract f k = ⟨(opn ((bs s).take k)).toArray⟩ := by
  have hl := opn_drop ((bs s).take k)
  rw [take_len s k hk, ← hf, List.drop_take] at hl
  rw [extract_bs, hl]
/-- The words of the text up to place k, or of all of it. -/
def wordsTo (s : ByteArray) (k : Nat) : List (List UInt8) := if k ≤ s.size then ended ((bs s).take k) else wordsL (bs s)
def RefWordsRel (s : ByteArray) (w : World) (out f i : Value) (wr : World) : Prop :=
  ∃ k m : Nat, k ≤ s.size + 1 ∧ i = .int .i64 (k : Int) ∧ f = .int .i64 (m : Int) ∧ (k ≤ s.size → m = k - (opn ((bs s).take k)).length) ∧ ownS wr w.heap.size out (wordsTo s k) ∧ Below w.heap.size w wr
theorem wordsTo_len (s : ByteArray) (k : Nat) : (wordsTo s k).length ≤ s.size := by
  unfold wordsTo
  have h0 : (bs s).length = s.size := size_toList s
  split
  · have h1 := ended_len ((bs s).take k)
    rw [List.length_take] at h1; omega
  · have h1 := wordsL_len (bs s); omega
theorem opn_snoc_gap {s : ByteArray} {k : Nat} (hk : k < s.size) (hg : gapB s[k] = true) : opn ((bs s).take (k + 1)) = [] ∧ wordsTo s (k + 1) = wordsTo s k ++ endL (opn ((bs s).take k)) := by
  unfold wordsTo
  rw [if_pos (by omega), if_pos (by omega), take_snoc s k hk, opn_gap hg, ended_gap hg]
  exact ⟨rfl, rfl⟩
theorem opn_snoc_more {s : ByteArray} {k : Nat} (hk : k < s.size) (hg : gapB s[k] = false) : opn ((bs s).take (k + 1)) = opn ((bs s).take k) ++ [s[k]] ∧ wordsTo s (k + 1) = wordsTo s k := by
  unfold wordsTo
  rw [if_pos (by omega), if_pos (by omega), take_snoc s k hk, opn_more hg, ended_more hg]
  exact ⟨rfl, rfl⟩
theorem wordsTo_end (s : ByteArray) : wordsTo s (s.size + 1) = wordsTo s s.size ++ endL (opn ((bs s).take s.size)) := by
  unfold wordsTo
  rw [if_neg (by omega), if_pos (Nat.le_refl _), take_all s s.size (Nat.le_refl _)]
  rfl
/-- The word is ended at k. -/
theorem refRel_end {s : ByteArray} {w w2 : World} {u : Value} {k : Nat} (hk : k ≤ s.size) (hg : k = s.size ∨ ∃ h : k < s.size, gapB s[k] = true)
    (hown : ownS w2 w.heap.size u (wordsTo s k ++ endL (opn ((bs s).take k)))) (hb : Below w.heap.size w w2) : RefWordsRel s w u (.int .i64 ((k + 1 : Nat) : Int)) (.int .i64 ((k + 1 : Nat) : Int)) w2 := by
  refine ⟨k + 1, k + 1, by omega, rfl, rfl, ?_, ?_, hb⟩
  · intro hle
    rcases hg with rfl | ⟨h, hg⟩
    · omega
    · rw [(opn_snoc_gap h hg).1]; rfl
  · rcases hg with rfl | ⟨h, hg⟩
    · rw [wordsTo_end]; exact hown
    · rw [(opn_snoc_gap h hg).2]; exact hown
theorem refRel_more {s : ByteArray} {w wr : World} {u : Value} {k m : Nat} (hk : k < s.size) (hg : gapB s[k] = false) (hm : k ≤ s.size → m = k - (opn ((bs s).take k)).length)
    (hown : ownS wr w.heap.size u (wordsTo s k)) (hb : Below w.heap.size w wr) : RefWordsRel s w u (.int .i64 (m : Int)) (.int .i64 ((k + 1 : Nat) : Int)) wr := by
  have h1 := opn_len ((bs s).take k)
  rw [take_len s k (by omega)] at h1
  refine ⟨k + 1, m, by omega, rfl, rfl, fun _ => ?_, ?_, hb⟩
  · rw [hm (by omega), (opn_snoc_more hk hg).1, List.length_append]; simp
  · rw [(opn_snoc_more hk hg).2]; exact hown
theorem own_end0 {w : World} {b : Nat} {u : Value} {L : List (List UInt8)} {o : List UInt8} (h : ownS w b u L) (ho : o.length = 0) : ownS w b u (L ++ endL o) := by
  have : o = [] := List.eq_nil_of_length_eq_zero ho
  subst this; simpa [endL] using h
theorem own_end1 {w : World} {b : Nat} {u : Value} {L : List (List UInt8)} {o : List UInt8} (h : w.ownsRow b 9 1 u (L.length + 1) (scells L ++ [tx o])) (ho : o.length ≠ 0) : ownS w b u (L ++ endL o) := by
  have : o ≠ [] := fun e => ho (by rw [e]; rfl)
  have e1 : endL o = [o] := by simp [endL, this]
  rw [e1]; unfold ownS; rw [List.length_append, scells_append]; exact h
set_option maxHeartbeats 1000000 in
theorem refWords_any (s : ByteArray) (w : World) (hs : s.size ≤ 1048576) :
    Calls Try.prog 15 #[.string s] w fun e w' => ∃ r, e = .returned r ∧ ownS w' w.heap.size r (wordsL (bs s)) ∧ Below w.heap.size w w' := by
  obtain ⟨j0, hj, hy0, hy1, hy2⟩ := info_parts Try.info9
  go_enter Try.func15, Try.ntmps15
  go_wp2
  go_loopw [3, 4, 5] (fun out f i wr => RefWordsRel s w out f i wr) (fun _ _ i _ => s.size + 1 - (intOf i).toNat)
  case atStart => exact ⟨0, 0, by omega, rfl, rfl, fun _ => rfl, World.ownsRow_nil _ _ _ _, Below.refl _ _⟩
  case round =>
    obtain ⟨k, m, hk, rfl, rfl, hm, hown, hbel⟩ := hrel
    have HM := Lib.hid hm; clear hm
    have hwl := wordsTo_len s k
    have hsz := hbel.size
    by_cases hend : k ≤ s.size
    · have hcut := cut_text s k m hend (HM.out hend)
      have hol := opn_len ((bs s).take k)
      rw [take_len s k hend] at hol
      have hmm := HM.out hend
      obtain ⟨o, ho⟩ : ∃ o, o = opn ((bs s).take k) := ⟨_, rfl⟩
      rw [← ho] at hcut hol hmm
      have HO := Lib.hid ho; clear ho
      have hmk : m ≤ k := by omega
      have HMM := Lib.hid hmm; clear hmm
      have hsl : (Instr.slice 9 (.string s) (some (.int .i64 (m : Int))) (some (.int .i64 (k : Int))) none).run Try.prog wr = .ok (.string ⟨o.toArray⟩) wr := by
        rw [run_slice_string wr 9 s .i64 .i64 m k Try.underlying9 (by omega) (by omega) (by omega)]
        simp only [Int.toNat_natCast, hcut]
      clear hcut
      by_cases hlast : k = s.size
      · have HG : Hid (k = s.size ∨ ∃ h : k < s.size, gapB s[k] = true) := Lib.hid (.inl hlast)
        have HG1 : Hid (gapB 9 = true) := Lib.hid rfl
        subst hlast
        by_cases hn : m < s.size
        · go_wp2_with (first | (go_at_call 23; refine (rgap_yes _ _ HG1.out).mono ?_; rintro e w' ⟨rfl, rfl⟩) | (at_builtin; refine wpList_append_lies _ rfl (.tmp 25) (.tmp 30) 22 rfl w.heap.size 9 j0 (.string ⟨#[]⟩) 1 16 Try.underlying22 hj hy0 hy1 hy2 rfl (by decide) u3 _ (scells (wordsTo s s.size)) rfl (World.ownsRow.alloc hown _) _ 1 1 [tx o] rfl rfl (cell_one_new _ _ _) (by intro u hu; simp at hu; subst hu; rfl) (by decide) (by unfold maxLen; omega) (by omega) (Nat.le_trans hsz (by simp)) _ rfl ?_; intro g3 cap3 w2 hown3 hgr3 hat3 hlt3))
          have hB := (hbel.alloc hsz _).grown hgr3 (Nat.le_trans hsz (by simp)) (fun g hg => (hown.lt g hg).1)
          go_roundw
          case rel => exact refRel_end hend HG.out (own_end1 (by rw [← HO.out]; exact hown3) (by rw [← HO.out]; have := HMM.out; omega)) hB
          case measure => simp [intOf]
        · go_wp2_with (go_at_call 23; refine (rgap_yes _ _ HG1.out).mono ?_; rintro e w' ⟨rfl, rfl⟩)
          go_roundw
          case rel => exact refRel_end hend HG.out (own_end0 hown (by rw [← HO.out]; have := HMM.out; omega)) hbel
          case measure => simp [intOf]
      · have hlt : k < s.size := by omega
        have hnI : ¬ (k : Int) = (s.size : Int) := by omega
        clear hlast
        cases hgp : gapB s[k]
        · have HG1 := Lib.hid hgp; clear hgp
          go_wp2_with (go_at_call 23; refine (rgap_no _ _ HG1.out).mono ?_; rintro e w' ⟨rfl, rfl⟩)
          go_roundw
          case rel => exact refRel_more hlt HG1.out HM.out hown hbel
          case measure => simp [intOf]; omega
        · have HG1 := Lib.hid hgp
          have HG : Hid (k = s.size ∨ ∃ h : k < s.size, gapB s[k] = true) := Lib.hid (.inr ⟨hlt, hgp⟩)
          clear hgp
          by_cases hn : m < k
          · go_wp2_with (first | (go_at_call 23; refine (rgap_yes _ _ HG1.out).mono ?_; rintro e w' ⟨rfl, rfl⟩) | (at_builtin; refine wpList_append_lies _ rfl (.tmp 25) (.tmp 30) 22 rfl w.heap.size 9 j0 (.string ⟨#[]⟩) 1 16 Try.underlying22 hj hy0 hy1 hy2 rfl (by decide) u3 _ (scells (wordsTo s k)) rfl (World.ownsRow.alloc hown _) _ 1 1 [tx o] rfl rfl (cell_one_new _ _ _) (by intro u hu; simp at hu; subst hu; rfl) (by decide) (by unfold maxLen; omega) (by omega) (Nat.le_trans hsz (by simp)) _ rfl ?_; intro g3 cap3 w2 hown3 hgr3 hat3 hlt3))
            have hB := (hbel.alloc hsz _).grown hgr3 (Nat.le_trans hsz (by simp)) (fun g hg => (hown.lt g hg).1)
            go_roundw
            case rel => exact refRel_end hend HG.out (own_end1 (by rw [← HO.out]; exact hown3) (by rw [← HO.out]; have := HMM.out; omega)) hB
            case measure => simp [intOf]; omega
          · go_wp2_with (go_at_call 23; refine (rgap_yes _ _ HG1.out).mono ?_; rintro e w' ⟨rfl, rfl⟩)
            go_roundw
            case rel => exact refRel_end hend HG.out (own_end0 hown (by rw [← HO.out]; have := HMM.out; omega)) hbel
            case measure => simp [intOf]; omega
    · go_wp2
      go_ret
      have he : wordsTo s k = wordsL (bs s) := by unfold wordsTo; rw [if_neg hend]
      rw [he] at hown
      exact ⟨_, rfl, hown, hbel⟩
/-- The text less its open word. -/
theorem cut_open (c : ByteArray) (n : Nat) (hn : n = (opn (bs c)).length) : ∃ d : ByteArray, (∀ w, (Instr.slice 9 (.string c) none (some (.int .i64 ((c.size : Int) - (n : Int)))) none).run Try.prog w = .ok (.string d) w) ∧ wordsL (bs d) = ended (bs c) ∧ d.size ≤ c.size := by
  have hle := opn_len (bs c)
  rw [size_toList] at hle
  have e1 : ((c.size : Int) - (n : Int)).toNat = c.size - n := by omega
  refine ⟨c.extract 0 (c.size - n), fun w => ?_, ?_, ?_⟩
  · rw [run_slice_string_h w 9 c Try.underlying9 .i64 ((c.size : Int) - (n : Int)) (by omega) (by omega), e1]
  · rw [extract_bs, List.drop_zero, Nat.sub_zero]
    show wordsL ((bs c).take (c.size - n)) = _
    have := ended_cut (bs c)
    rw [size_toList, ← hn] at this
    exact this
  · rw [ByteArray.size_extract]; omega
theorem refWords_as (s : ByteArray) (L : List (List UInt8)) (w : World) (hs : s.size ≤ 1048576) (h : wordsL (bs s) = L) :
    Calls Try.prog 15 #[.string s] w fun e w' => ∃ r, e = .returned r ∧ ownS w' w.heap.size r L ∧ Below w.heap.size w w' := by
  rw [← h]; exact refWords_any s w hs
end Go.Proofs.Ytfajhjppbecjaaa
