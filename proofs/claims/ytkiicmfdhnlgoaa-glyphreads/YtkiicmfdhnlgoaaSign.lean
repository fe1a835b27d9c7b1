/- The contracts of Sign and Byte, of glyph and of gluepotref02. -/
import Derived.Test.YtkiicmfdhnlgoaaRows
import Derived.WalkKit
import Derived.WalkSpells
import Derived.WalkLawsBesides
import Derived.Lib.Hide
import Derived.Deep.QuietTactic
import Derived.BigQuiet
import Derived.IntWalk
namespace Go.Proofs.Ytkiicmfdhnlgoaa
open Go.RowKit

/-- The sign of a byte. -/
def sg (c : Int) : Int := if c ≤ 32 then c + 256 else if 127 ≤ c ∧ c ≤ 160 then c + 162 else if c = 173 then 323 else c
def own (r : Int) : Bool := decide ((32 < r ∧ r < 127) ∨ (160 < r ∧ r < 256 ∧ r ≠ 173))
/-- Is it a sign, and of which byte? -/
def isSg (r : Int) : Bool := decide ((32 < r ∧ r < 127) ∨ (160 < r ∧ r < 324 ∧ r ≠ 173))
def by' (r : Int) : Int := if isSg r = true then (if 256 ≤ r ∧ r < 289 then r - 256 else if 289 ≤ r ∧ r < 323 then r - 162 else if r = 323 then 173 else r) else 0

theorem sg_bd {c : Int} (h0 : 0 ≤ c) (h1 : c ≤ 255) : 33 ≤ sg c ∧ sg c ≤ 323 := by unfold sg; split <;> (try split) <;> (try split) <;> omega
theorem isSg_sg {c : Int} (h0 : 0 ≤ c) (h1 : c ≤ 255) : isSg (sg c) = true := by unfold isSg sg; rw [decide_eq_true_iff]; split <;> (try split) <;> (try split) <;> omega
theorem by_sg {c : Int} (h0 : 0 ≤ c) (h1 : c ≤ 255) : by' (sg c) = c := by
  unfold by'; rw [if_pos (isSg_sg h0 h1)]; unfold sg; split <;> (try split) <;> (try split) <;> (repeat' split) <;> omega
theorem by_bd (r : Int) : 0 ≤ by' r ∧ by' r ≤ 255 := by
  unfold by' isSg; simp only [decide_eq_true_iff]; (repeat' split) <;> omega
theorem sg_by {r : Int} (h : isSg r = true) : sg (by' r) = r := by
  unfold by'; rw [if_pos h]; unfold isSg at h; rw [decide_eq_true_iff] at h; unfold sg; (repeat' split) <;> omega
theorem sg_inj {c d : Int} (h0 : 0 ≤ c) (h1 : c ≤ 255) (h2 : 0 ≤ d) (h3 : d ≤ 255) (h : sg c = sg d) : c = d := by
  rw [← by_sg h0 h1, ← by_sg h2 h3, h]
theorem by_no {r : Int} (h : isSg r = false) : by' r = 0 := by unfold by'; rw [if_neg (by simp [h])]

theorem retI {k : IntKind} {a b : Int} (h : a = b) : Ending.returned (.int k a) = .returned (.int k b) := by rw [h]
theorem retB {p q : Bool} (h : p = q) : Ending.returned (.bool p) = .returned (.bool q) := by rw [h]
theorem retU {a b : Int} {p q : Bool} (h : a = b) (g : p = q) : Ending.returned (.tuple #[.int .u8 a, .bool p]) = .returned (.tuple #[.int .u8 b, .bool q]) := by rw [h, g]

set_option maxHeartbeats 400000 in
theorem sign_any (c : Int) (w : World) (h0 : 0 ≤ c) (h1 : c ≤ 255) :
    Calls Try.prog 9 #[.int .u8 c] w fun e w' => e = .returned (.int .i32 (sg c)) ∧ w = w' := by
  rcases (show c ≤ 32 ∨ (33 ≤ c ∧ c < 127) ∨ (127 ≤ c ∧ c ≤ 160) ∨ (160 < c ∧ c < 173) ∨ c = 173 ∨ 173 < c from by omega) with h | ⟨h, h'⟩ | ⟨h, h'⟩ | ⟨h, h'⟩ | h | h
  all_goals
    go_enter Try.func9, Try.ntmps9
    go_wp2
    go_ret
    exact ⟨retI (by unfold sg; split <;> (try split) <;> (try split) <;> omega), rfl⟩

set_option maxHeartbeats 400000 in
theorem refSign_any (c : Int) (w : World) (h0 : 0 ≤ c) (h1 : c ≤ 255) :
    Calls Try.prog 10 #[.int .u8 c] w fun e w' => e = .returned (.int .i64 (sg c)) ∧ w = w' := by
  rcases (show c ≤ 32 ∨ (33 ≤ c ∧ c ≤ 126) ∨ (127 ≤ c ∧ c ≤ 160) ∨ (161 ≤ c ∧ c ≤ 172) ∨ c = 173 ∨ 174 ≤ c from by omega) with h | ⟨h, h'⟩ | ⟨h, h'⟩ | ⟨h, h'⟩ | h | h
  all_goals
    go_enter Try.func10, Try.ntmps10
    go_wp2
    go_ret
    exact ⟨retI (by unfold sg; split <;> (try split) <;> (try split) <;> omega), rfl⟩

set_option maxHeartbeats 400000 in
theorem own_any (c : Int) (w : World) (h0 : -2147483648 ≤ c) (h1 : c ≤ 2147483647) :
    Calls Try.prog 16 #[.int .i32 c] w fun e w' => e = .returned (.bool (own c)) ∧ w = w' := by
  rcases (show c ≤ 32 ∨ (32 < c ∧ c < 127) ∨ (127 ≤ c ∧ c ≤ 160) ∨ (160 < c ∧ c < 256 ∧ c ≠ 173) ∨ c = 173 ∨ 256 ≤ c from by omega) with h | ⟨h, h'⟩ | ⟨h, h'⟩ | ⟨h, h', h''⟩ | h | h
  all_goals
    go_enter Try.func16, Try.ntmps16
    go_wp2
    go_ret
    exact ⟨retB (by unfold own; rw [Bool.eq_iff_iff]; simp; try omega), rfl⟩
theorem own_as {c : Int} {b : Bool} (w : World) (h0 : -2147483648 ≤ c) (h1 : c ≤ 2147483647) (h : own c = b) :
    Calls Try.prog 16 #[.int .i32 c] w fun e w' => e = .returned (.bool b) ∧ w = w' := by
  subst h; exact own_any c w h0 h1

theorem refSign_w (c : Int) (w : World) (h0 : 0 ≤ c) (h1 : c ≤ 255) :
    Calls Try.prog 10 #[.int .u8 c] w fun e w' => e = .returned (.int .i64 (sg c)) ∧ w' = w :=
  (refSign_any c w h0 h1).mono fun _ _ ⟨h, g⟩ => ⟨h, g.symm⟩
theorem isSg_none {r : Int} (h : ∀ j : Nat, j < 256 → sg j ≠ r) : isSg r = false := by
  cases he : isSg r
  · rfl
  · have hb := by_bd r
    exact absurd (by rw [show (((by' r).toNat : Nat) : Int) = by' r from by omega]; exact sg_by he) (h (by' r).toNat (by omega))

end Go.Proofs.Ytkiicmfdhnlgoaa
