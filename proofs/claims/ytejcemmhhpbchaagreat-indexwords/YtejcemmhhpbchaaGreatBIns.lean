/- slices.BinarySearch of a number above all, and slices.Insert behind the last. -/
import Derived.Test.YtejcemmhhpbchaaGreatIntE
import Derived.Deep.RegionHeld3
namespace Go.Proofs.YtejcemmhhpbchaaGreat
open Go.RowKit

set_option maxRecDepth 100000 in
theorem bisNaN_any (a : Int) (w : World) : Calls Tryz.prog 76 #[.int .i64 a] w fun e w' => e = .returned (.bool false) ∧ w' = w := by
  go_enter Tryz.func76, Tryz.ntmps76
  go_wp2
  go_ret
  exact ⟨by simp, rfl⟩
set_option maxRecDepth 100000 in
theorem bcNaN_any (a : Int) (w : World) : Calls Tryz.prog 74 #[.int .i64 a] w fun e w' => e = .returned (.bool false) ∧ w' = w := by
  go_enter Tryz.func74, Tryz.ntmps74
  go_wp2
  go_ret
  exact ⟨by simp, rfl⟩
set_option maxRecDepth 100000 in
theorem bless_any (x y : Int) (w : World) : Calls Tryz.prog 75 #[.int .i64 x, .int .i64 y] w fun e w' => e = .returned (.bool (decide (x < y))) ∧ w' = w := by
  go_enter Tryz.func75, Tryz.ntmps75
  go_wp2_with (go_at_call 74; refine (bcNaN_any _ _).mono ?_; rintro e w' ⟨rfl, rfl⟩)
  go_ret
  exact ⟨rfl, rfl⟩
set_option maxRecDepth 100000 in
set_option maxHeartbeats 4000000 in
theorem bsearch_any (v : Value) (L : List Int) (x : Int) (w : World) (h : eltsAt intE w v L) (hlt : ∀ y ∈ L, y < x) (hl : L.length ≤ 1000000) :
    Calls Tryz.prog 62 #[v, .int .i64 x] w fun e w' => e = .returned (.tuple #[.int .i64 (L.length : Int), .bool false]) ∧ w' = w := by
  have H := Lib.hid h
  have HL := Lib.hid hlt
  obtain ⟨a, cap, rfl, _⟩ := h
  obtain ⟨n, hn⟩ : ∃ n, L.length = n := ⟨_, rfl⟩
  have HN := Lib.hid hn
  rw [hn] at H hl ⊢
  clear hlt hn
  go_enter Tryz.func62, Tryz.ntmps62
  go_wp2
  go_loopw [7, 8] (fun i j wr => ∃ k : Nat, i = .int .i64 (k : Int) ∧ j = .int .i64 (n : Int) ∧ k ≤ n ∧ wr = w) (fun i _ _ => n - (intOf i).toNat)
  case atStart => exact ⟨0, rfl, rfl, Nat.zero_le _, rfl⟩
  case round =>
    obtain ⟨k, rfl, rfl, hk, rfl⟩ := hrel
    by_cases hgo : k < n
    · obtain ⟨m, hm⟩ : ∃ m, (k + n) / 2 = m := ⟨_, rfl⟩
      have hmn : m < n := by omega
      have hkm : k ≤ m := by omega
      have hmI : ((k : Int) + (n : Int)) / 2 = (m : Int) := by omega
      have hmL : m < L.length := by rw [HN.out]; exact hmn
      obtain ⟨ad, rfl⟩ : ∃ ad, a = some ad := by
        obtain ⟨_, _, e, hc⟩ := H.out
        obtain ⟨ad, e2, _⟩ := hc m hmL
        exact ⟨ad, (Value.slice.inj e).1.trans e2⟩
      have cm := ints_cell H.out (Below.refl _ wr) hmL
      have hy := HL.out _ (List.getElem_mem hmL)
      generalize L[m] = y at cm hy
      go_wp2_with (go_at_call 75; refine (bless_any _ _ _).mono ?_; rintro e w' ⟨rfl, rfl⟩)
      go_roundw
      case rel => exact ⟨m + 1, by simp, by simp, by omega, by simp⟩
      case measure => simp [intOf] <;> omega
    · have hkI : ¬ (k : Int) < (n : Int) := by omega
      obtain rfl : k = n := by omega
      go_wp2
      go_ret2
      exact ⟨rfl, rfl⟩
set_option maxRecDepth 100000 in
set_option maxHeartbeats 4000000 in
theorem binsert_any (base : Nat) (v y : Value) (L : List Int) (x : Int) (w : World) (h : ownE intE w base v L) (hy : eltsAt intE w y [x]) (hn : nilNone y) (hb : base ≤ w.heap.size) (hl : L.length ≤ 1000000) :
    Calls Tryz.prog 63 #[v, .int .i64 (L.length : Int), y] w fun e w' => ∃ r, e = .returned r ∧ ownE intE w' base r (L ++ [x]) ∧ w.grownBy w' v.ownBlock ∧ (r.ownBlock = v.ownBlock ∨ r.ownBlock = some w.heap.size) := by
  have H := Lib.hid h
  have HY := Lib.hid hy
  obtain ⟨a, cap, rfl, hcap⟩ := h.form
  obtain ⟨a2, cap2, rfl, _⟩ := hy
  obtain ⟨v2, hrun, _, _⟩ := ints_tail a L.length cap L.length (L.length : Int) rfl (Nat.le_refl _) hcap h.nilNone
  have hr := hrun w
  obtain ⟨n, hN⟩ : ∃ n, L.length = n := ⟨_, rfl⟩
  have HN := Lib.hid hN
  rw [hN] at H hl hr hcap ⊢
  clear h hrun hN
  simp only [List.length_cons, List.length_nil] at HY hn ⊢
  go_enter Tryz.func63, Tryz.ntmps63
  go_wp2_with (at_builtin; refine wpList_append_elts intE rfl _ _ rfl base _ _ L [x] rfl rfl H.out HY.out hn (by rw [HN.out]; simp; omega) hb ?_; intro r w1 ho1 hg1 hl1)
  go_ret
  exact ⟨_, rfl, ho1, hg1, hl1⟩
end Go.Proofs.YtejcemmhhpbchaaGreat
