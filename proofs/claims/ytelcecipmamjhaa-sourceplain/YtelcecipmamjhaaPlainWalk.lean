/- The walk of SourcePlain. -/
import Derived.Test.YtelcecipmamjhaaAwake
namespace Go.Proofs.Ytelcecipmamjhaa
open Go.RowKit

theorem pln_new (w : World) (t : ByteArray) : Pln (w.alloc (.cells #[.string t] 41)) w.heap.size t := heap_alloc_new w _
theorem pln_new2 (w : World) (a t : ByteArray) : Pln ((w.alloc (.cells #[.string a] 41)).alloc (.cells #[.string t] 41)) (w.heap.size + 1) t := by
  have := pln_new (w.alloc (.cells #[.string a] 41)) t
  rw [World.size_alloc] at this
  exact this
theorem nilrow_text (w : World) : (convert 32 9 (.slice none 0 0)).run Try.prog w = .ok (.string ⟨#[]⟩) w := by
  rw [run_convert_bytes_string w 32 9 5 none 0 0 Try.underlying32 Try.underlying5 Try.underlying9]
  simp [Conv.bytesToString, Sem.run_pure]
  rfl

set_option maxRecDepth 100000 in
set_option maxHeartbeats 1000000 in
theorem sourcePlain_walk (s : ByteArray) (w : World) :
    Calls Try.prog 4 #[.string s] w fun e w' => e = .returned (.bool true) ∧ Below w.heap.size w w' := by
  have hm := Try.callPlain
  go_enter Try.func4, Try.ntmps4
  go_wp2_with fail
  refine (awake_any _).mono ?_
  rintro _ w1 ⟨rfl, hb1⟩
  by_cases hbig : (3000 : Int) < (s.size : Int)
  · go_wp2
    go_ret
    exact ⟨rfl, hb1⟩
  · by_cases hs : bs s = []
    · obtain rfl := empty_of hs
      clear hs hbig
      have hnr := nilrow_text
      go_wp2_with fail
      refine (sizeOf_plain _ _).mono ?_
      rintro _ w2 ⟨rfl, rfl⟩
      go_wp2_with fail
      refine (must_plain _ _).mono ?_
      rintro _ w2 ⟨rfl, rfl⟩
      go_wp2_with fail
      refine (plain_end _ _ (pln_new w1 _)).mono ?_
      rintro _ w2 ⟨rfl, rfl⟩
      go_wp2_with fail
      refine (plain_end _ _ (pln_new w1 _)).mono ?_
      rintro _ w2 ⟨rfl, rfl⟩
      go_wp2_with fail
      refine (all_plain _ _ _ (pln_new2 w1 _ _) (by decide)).mono ?_
      rintro _ w3 ⟨rfl, hk⟩
      go_wp2
      go_ret
      refine ⟨rfl, ?_⟩
      have h1 := hb1.alloc hb1.size (.cells #[.string ⟨#[]⟩] 41)
      have h2 := h1.alloc h1.size (.cells #[.string ⟨#[]⟩] 41)
      exact Below.kept h2 hk (by rintro i rfl; have := hb1.size; omega) h2.size
    · have hse := some_text hs
      have HS := Lib.hid hs; clear hs
      go_wp2_with fail
      refine (sizeOf_plain _ _).mono ?_
      rintro _ w2 ⟨rfl, rfl⟩
      go_wp2_with fail
      refine (must_plain _ _).mono ?_
      rintro _ w2 ⟨rfl, rfl⟩
      go_wp2_with fail
      refine (plain_more _ _ s (pln_new w1 _) HS.out).mono ?_
      rintro _ w2 ⟨c2, rfl, hb2, hP2, hk2⟩
      have hcv := hb2.text
      rw [show (⟨(bs s).toArray⟩ : ByteArray) = s from ba_eq s, World.size_alloc] at hcv
      have HP2 := Lib.hid hP2
      have c0 := hP2.cells.1
      clear hb2 hP2
      go_wp2_with fail
      refine (plain_end _ _ HP2.out).mono ?_
      rintro _ w3 ⟨rfl, rfl⟩
      go_wp2_with fail
      refine (all_plain _ _ s (pln_new w2 s) (by omega)).mono ?_
      rintro _ w4 ⟨rfl, hk4⟩
      go_wp2
      go_ret
      refine ⟨rfl, ?_⟩
      have h1 := hb1.alloc hb1.size (.cells #[.string s] 41)
      have h2 := Below.kept h1 hk2 (by rintro i rfl; exact hb1.size) h1.size
      have h3 := h2.alloc h2.size (.cells #[.string s] 41)
      exact Below.kept h3 hk4 (by rintro i rfl; exact h2.size) h3.size
end Go.Proofs.Ytelcecipmamjhaa
