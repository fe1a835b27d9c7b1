/- The sort of changes: the library's contract, laid at this program. -/
import Derived.Test.YtdnokkmnpgdplaaChg
import Derived.Shelf.SlSortCmp.NoneTotal
namespace Go.Proofs.Ytdnokkmnpgdplaa
open Go.RowKit Go.Shelf Go.Lib Go.Sort

def sortRen : Ren where
  f := fun x => match x with
    | 6 => 23
    | 15 => 29
    | 14 => 28
    | 28 => 39
    | 29 => 40
    | 20 => 31
    | 21 => 32
    | 22 => 33
    | 23 => 34
    | 24 => 35
    | 25 => 36
    | 26 => 37
    | 27 => 38
    | 46 => 41
    | 47 => 42
    | 48 => 43
    | 49 => 44
    | 50 => 45
    | 57 => 46
    | n => n
  t := fun x => match x with
    | 22 => 28
    | 24 => 47
    | 25 => 60
    | 3 => 3
    | 39 => 64
    | 0 => 0
    | 53 => 75
    | 55 => 77
    | 4 => 4
    | 46 => 68
    | 45 => 67
    | 50 => 72
    | 5 => 5
    | 9 => 9
    | 66 => 78
    | 70 => 82
    | 76 => 84
    | 77 => 85
    | n => n
  g := fun x => x
theorem sortLays : SlLaysF0.n6 Try.prog sortRen where
  mixed := by kernel_rfl
  f6 := ⟨Try.f23.name, by kernel_rfl, Try.func23⟩
  f15 := Try.func29
  f14 := ⟨Try.f28.name, by kernel_rfl, Try.func28⟩
  f28 := Try.func39
  f29 := Try.func40
  f20 := ⟨Try.f31.name, by kernel_rfl, Try.func31⟩
  f21 := ⟨Try.f32.name, by kernel_rfl, Try.func32⟩
  f22 := ⟨Try.f33.name, by kernel_rfl, Try.func33⟩
  f23 := ⟨Try.f34.name, by kernel_rfl, Try.func34⟩
  f24 := ⟨Try.f35.name, by kernel_rfl, Try.func35⟩
  f25 := ⟨Try.f36.name, by kernel_rfl, Try.func36⟩
  f26 := ⟨Try.f37.name, by kernel_rfl, Try.func37⟩
  f27 := ⟨Try.f38.name, by kernel_rfl, Try.func38⟩
  f46 := ⟨Try.f41.name, by kernel_rfl, Try.func41⟩
  f47 := Try.func42
  f48 := Try.func43
  f49 := ⟨Try.f44.name, by kernel_rfl, Try.func44⟩
  f50 := ⟨Try.f45.name, by kernel_rfl, Try.func45⟩
  f57 := ⟨Try.f46.name, by kernel_rfl, Try.func46⟩
  t22 := by kernel_rfl
  a22 := fun w => by kernel_rfl
  z22 := fun w => by kernel_rfl
  v22 := fun w => by kernel_rfl
  t25 := by kernel_rfl
  a25 := fun w => by kernel_rfl
  z25 := fun w => by kernel_rfl
  v25 := fun w => by kernel_rfl
  t3 := by kernel_rfl
  a3 := fun w => by kernel_rfl
  z3 := fun w => by kernel_rfl
  v3 := fun w => by kernel_rfl
  t39 := by kernel_rfl
  a39 := fun w => by kernel_rfl
  z39 := fun w => by kernel_rfl
  v39 := fun w => by kernel_rfl
  t0 := by kernel_rfl
  a0 := fun w => by kernel_rfl
  z0 := fun w => by kernel_rfl
  v0 := fun w => by kernel_rfl
  t53 := by kernel_rfl
  a53 := fun w => by kernel_rfl
  z53 := fun w => by kernel_rfl
  v53 := fun w => by kernel_rfl
  t55 := by kernel_rfl
  a55 := fun w => by kernel_rfl
  z55 := fun w => by kernel_rfl
  v55 := fun w => by kernel_rfl
  t4 := by kernel_rfl
  a4 := fun w => by kernel_rfl
  z4 := fun w => by kernel_rfl
  v4 := fun w => by kernel_rfl
  t46 := by kernel_rfl
  a46 := fun w => by kernel_rfl
  z46 := fun w => by kernel_rfl
  v46 := fun w => by kernel_rfl
  t45 := by kernel_rfl
  a45 := fun w => by kernel_rfl
  z45 := fun w => by kernel_rfl
  v45 := fun w => by kernel_rfl
  t50 := by kernel_rfl
  a50 := fun w => by kernel_rfl
  z50 := fun w => by kernel_rfl
  v50 := fun w => by kernel_rfl
  t5 := by kernel_rfl
  a5 := fun w => by kernel_rfl
  z5 := fun w => by kernel_rfl
  v5 := fun w => by kernel_rfl
  t9 := by kernel_rfl
  a9 := fun w => by kernel_rfl
  z9 := fun w => by kernel_rfl
  v9 := fun w => by kernel_rfl
  t66 := by kernel_rfl
  a66 := fun w => by kernel_rfl
  z66 := fun w => by kernel_rfl
  v66 := fun w => by kernel_rfl
  t70 := by kernel_rfl
  a70 := fun w => by kernel_rfl
  z70 := fun w => by kernel_rfl
  v70 := fun w => by kernel_rfl
  t76 := by kernel_rfl
  a76 := fun w => by kernel_rfl
  z76 := fun w => by kernel_rfl
  v76 := fun w => by kernel_rfl
  t77 := by kernel_rfl
  a77 := fun w => by kernel_rfl
  z77 := fun w => by kernel_rfl
  v77 := fun w => by kernel_rfl
end Go.Proofs.Ytdnokkmnpgdplaa
