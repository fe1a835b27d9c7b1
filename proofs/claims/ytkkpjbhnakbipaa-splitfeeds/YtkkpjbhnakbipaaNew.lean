/- The contracts of split.New, Splitter.Open and Splitter.End. -/
import Derived.Test.YtkkpjbhnakbipaaMem
namespace Go.Proofs.Ytkkpjbhnakbipaa
open Go.RowKit

theorem new_low (n : Int) (w : World) (_h0 : -9223372036854775808 ≤ n) (h1 : n < 1) :
    Calls Try.prog 14 #[.int .i64 n] w fun e w' => e = .returned (.pointer (some ⟨w.heap.size, 0, none⟩)) ∧ w' = w.alloc (.cells #[.int .i64 1, .slice none 0 0, .bool false] 44) := by
  go_enter Try.func14, Try.ntmps14
  go_wp2
  go_ret
  exact ⟨rfl, rfl⟩
theorem new_high (n : Int) (w : World) (h0 : 1 ≤ n) (h1 : n ≤ 9223372036854775807) :
    Calls Try.prog 14 #[.int .i64 n] w fun e w' => e = .returned (.pointer (some ⟨w.heap.size, 0, none⟩)) ∧ w' = w.alloc (.cells #[.int .i64 n, .slice none 0 0, .bool false] 44) := by
  go_enter Try.func14, Try.ntmps14
  go_wp2
  go_ret
  exact ⟨rfl, rfl⟩
theorem new_spl (w : World) (base lim : Nat) (hb : base ≤ w.heap.size) : Spl (w.alloc (.cells #[.int .i64 lim, .slice none 0 0, .bool false] 44)) base w.heap.size lim (.slice none 0 0) [] false :=
  ⟨hb, heap_alloc_new w _, World.ownsRow_nil _ _ _ _⟩
/-- A new splitter of the limit n, or 1. -/
theorem new_any (n : Int) (lim : Nat) (w : World) (h0 : -9223372036854775808 ≤ n) (h1 : n ≤ 9223372036854775807) (hl : (lim : Int) = max n 1) :
    Calls Try.prog 14 #[.int .i64 n] w fun e w' => e = .returned (.pointer (some ⟨w.heap.size, 0, none⟩)) ∧ w' = w.alloc (.cells #[.int .i64 lim, .slice none 0 0, .bool false] 44) := by
  by_cases h : n < 1
  · have : (lim : Int) = 1 := by omega
    rw [this]; exact new_low n w h0 h
  · have : (lim : Int) = n := by omega
    rw [this]; exact new_high n w (by omega) h1

theorem open_nil (w : World) : Calls Try.prog 18 #[.pointer none] w fun e w' => e = .returned (.int .i64 0) ∧ w = w' := by
  go_enter Try.func18, Try.ntmps18
  go_wp2
  go_ret
  exact ⟨rfl, rfl⟩
theorem open_any (w : World) (base K lim : Nat) (v : Value) (o : List UInt8) (b : Bool) (h : Spl w base K lim v o b) :
    Calls Try.prog 18 #[.pointer (some ⟨K, 0, none⟩)] w fun e w' => e = .returned (.int .i64 (o.length : Int)) ∧ w = w' := by
  obtain ⟨a, cap, rfl⟩ := ownB.form h.2.2
  obtain ⟨_, h1, _⟩ := h.cells
  clear h
  go_enter Try.func18, Try.ntmps18
  go_wp2
  go_ret
  exact ⟨rfl, rfl⟩
theorem end_nil (w : World) : Calls Try.prog 19 #[.pointer none] w fun e w' => e = .returned (.slice none 0 0) ∧ w = w' := by
  go_enter Try.func19, Try.ntmps19
  go_wp2_with (go_at_call 18; refine (open_nil _).mono ?_; rintro e w' ⟨rfl, rfl⟩)
  go_ret
  exact ⟨rfl, rfl⟩
theorem end_none (w : World) (base K lim : Nat) (v : Value) (b : Bool) (h : Spl w base K lim v [] b) :
    Calls Try.prog 19 #[.pointer (some ⟨K, 0, none⟩)] w fun e w' => e = .returned (.slice none 0 0) ∧ w = w' := by
  go_enter Try.func19, Try.ntmps19
  go_wp2_with (go_at_call 18; refine (open_any _ base K lim v [] b h).mono ?_; rintro e w' ⟨rfl, rfl⟩)
  go_ret
  exact ⟨rfl, rfl⟩
end Go.Proofs.Ytkkpjbhnakbipaa
