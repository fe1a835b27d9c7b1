/- The walk of GlyphSigns. -/
import Derived.Test.YtkiicmfdhnlgoaaAwake
import Derived.Test.YtkiicmfdhnlgoaaByte
import Derived.Test.YtkiicmfdhnlgoaaRefByte
namespace Go.Proofs.Ytkiicmfdhnlgoaa
open Go.RowKit

theorem sign_at {c x : Int} (w : World) (h0 : 0 ≤ c) (h1 : c ≤ 255) (h : sg c = x) :
    Calls Try.prog 9 #[.int .u8 c] w fun e w' => e = .returned (.int .i32 x) ∧ w' = w := by
  subst h; exact (sign_any c w h0 h1).mono fun _ _ ⟨h, g⟩ => ⟨h, g.symm⟩
theorem refSign_at {c x : Int} (w : World) (h0 : 0 ≤ c) (h1 : c ≤ 255) (h : sg c = x) :
    Calls Try.prog 10 #[.int .u8 c] w fun e w' => e = .returned (.int .i64 x) ∧ w' = w := by
  subst h; exact (refSign_any c w h0 h1).mono fun _ _ ⟨h, g⟩ => ⟨h, g.symm⟩
theorem byte_at {r b : Int} {p : Bool} (w : World) (h0 : -2147483648 ≤ r) (h1 : r ≤ 2147483647) (h : by' r = b) (g : isSg r = p) :
    Calls Try.prog 7 #[.int .i32 r] w fun e w' => e = .returned (.tuple #[.int .u8 b, .bool p]) ∧ w = w' := by
  subst h; subst g; exact byte_any r w h0 h1
theorem refByte_at {r b : Int} {p : Bool} (w : World) (h : by' r = b) (g : isSg r = p) :
    Calls Try.prog 8 #[.int .i64 r] w fun e w' => e = .returned (.tuple #[.int .u8 b, .bool p]) ∧ ∃ n, w' = w.drewN n := by
  subst h; subst g; exact refByte_any r w

set_option maxHeartbeats 400000 in
theorem glyphSigns_walk (c d r : Int) (w : World) (w0 : (Lit.int .u8 c).wf = true) (w1 : (Lit.int .u8 d).wf = true) (w2 : (Lit.int .i32 r).wf = true) :
    Calls Try.prog 3 #[.int .u8 c, .int .u8 d, .int .i32 r] w fun e w' => e = .returned (.bool true) ∧ Below w.heap.size w w' := by
  obtain ⟨c0, c1⟩ := bounds_u8 w0
  obtain ⟨d0, d1⟩ := bounds_u8 w1
  obtain ⟨r0, r1⟩ := bounds_i32 w2
  clear w0 w1 w2
  obtain ⟨x, hx⟩ : ∃ x, sg c = x := ⟨_, rfl⟩
  obtain ⟨y, hy⟩ : ∃ y, sg d = y := ⟨_, rfl⟩
  obtain ⟨b, hb⟩ : ∃ b, by' r = b := ⟨_, rfl⟩
  obtain ⟨p, hp⟩ : ∃ p, isSg r = p := ⟨_, rfl⟩
  obtain ⟨x0, x1⟩ : 33 ≤ x ∧ x ≤ 323 := by rw [← hx]; exact sg_bd (by omega) (by omega)
  have b1 : by' x = c := by rw [← hx]; exact by_sg (by omega) (by omega)
  have b2 : isSg x = true := by rw [← hx]; exact isSg_sg (by omega) (by omega)
  have HX := Lib.hid hx
  have HY := Lib.hid hy
  have HB := Lib.hid hb; clear hb
  have HP := Lib.hid hp; clear hp
  have HB1 := Lib.hid b1; clear b1
  have HB2 := Lib.hid b2; clear b2
  have hcd : ((c == d) == (x == y)) = true := by
    by_cases h : c = d
    · subst h; simp [← hx, ← hy]
    · have : x ≠ y := fun e => h (sg_inj (by omega) (by omega) (by omega) (by omega) (by rw [hx, hy, e]))
      rw [beq_eq_false_iff_ne.2 h, beq_eq_false_iff_ne.2 this]; rfl
  clear hx hy
  go_enter Try.func3, Try.ntmps3
  go_wp2_with fail
  refine (awake_any _).mono ?_
  rintro e w1 ⟨rfl, hb1⟩
  go_wp2_with fail
  refine (byte_at _ (by omega) (by omega) HB.out HP.out).mono ?_
  rintro e w2 ⟨rfl, rfl⟩
  go_wp2_with fail
  refine (refByte_at _ HB.out HP.out).mono ?_
  rintro e w3 ⟨rfl, n, rfl⟩
  go_wp2_with fail
  refine (sign_at _ (by omega) (by omega) HX.out).mono ?_
  rintro e w4 ⟨rfl, rfl⟩
  go_wp2_with fail
  refine (byte_at _ (by omega) (by omega) HB1.out HB2.out).mono ?_
  rintro e w5 ⟨rfl, rfl⟩
  go_wp2_with fail
  refine (sign_at _ (by omega) (by omega) HX.out).mono ?_
  rintro e w6 ⟨rfl, rfl⟩
  go_wp2_with fail
  refine (refSign_at _ (by omega) (by omega) HX.out).mono ?_
  rintro e w7 ⟨rfl, rfl⟩
  go_wp2_with fail
  refine (sign_at _ (by omega) (by omega) HX.out).mono ?_
  rintro e w8 ⟨rfl, rfl⟩
  go_wp2_with fail
  refine (sign_at _ (by omega) (by omega) HY.out).mono ?_
  rintro e w9 ⟨rfl, rfl⟩
  go_wp2
  go_ret
  exact ⟨rfl, below_drewN hb1 n⟩
end Go.Proofs.Ytkiicmfdhnlgoaa
