/- The sort of pairs: the library's contract, laid at this program. -/
import Derived.Test.YthgjpkemgpkknaaCmpP
import Derived.Shelf.SlSortCmp.NoneTotal
namespace Go.Proofs.Ythgjpkemgpkknaa
open Go.RowKit Go.Shelf Go.Lib Go.Sort

def sortRenP : Ren where
  f := fun x => match x with
    | 6 => 27
    | 15 => 34
    | 14 => 33
    | 28 => 44
    | 29 => 45
    | 20 => 36
    | 21 => 37
    | 22 => 38
    | 23 => 39
    | 24 => 40
    | 25 => 41
    | 26 => 42
    | 27 => 43
    | 46 => 46
    | 47 => 47
    | 48 => 48
    | 49 => 49
    | 50 => 50
    | 57 => 51
    | n => n
  t := fun x => match x with
    | 22 => 29
    | 24 => 24
    | 25 => 65
    | 3 => 3
    | 39 => 72
    | 0 => 0
    | 53 => 81
    | 55 => 67
    | 4 => 4
    | 46 => 75
    | 45 => 74
    | 50 => 54
    | 5 => 5
    | 9 => 9
    | 66 => 83
    | 70 => 87
    | 76 => 89
    | 77 => 90
    | n => n
  g := fun x => x
theorem sortLaysP : SlLaysF0.n6 Try.prog sortRenP where
  mixed := by kernel_rfl
  f6 := ⟨Try.f27.name, by kernel_rfl, Try.func27⟩
  f15 := Try.func34
  f14 := ⟨Try.f33.name, by kernel_rfl, Try.func33⟩
  f28 := Try.func44
  f29 := Try.func45
  f20 := ⟨Try.f36.name, by kernel_rfl, Try.func36⟩
  f21 := ⟨Try.f37.name, by kernel_rfl, Try.func37⟩
  f22 := ⟨Try.f38.name, by kernel_rfl, Try.func38⟩
  f23 := ⟨Try.f39.name, by kernel_rfl, Try.func39⟩
  f24 := ⟨Try.f40.name, by kernel_rfl, Try.func40⟩
  f25 := ⟨Try.f41.name, by kernel_rfl, Try.func41⟩
  f26 := ⟨Try.f42.name, by kernel_rfl, Try.func42⟩
  f27 := ⟨Try.f43.name, by kernel_rfl, Try.func43⟩
  f46 := ⟨Try.f46.name, by kernel_rfl, Try.func46⟩
  f47 := Try.func47
  f48 := Try.func48
  f49 := ⟨Try.f49.name, by kernel_rfl, Try.func49⟩
  f50 := ⟨Try.f50.name, by kernel_rfl, Try.func50⟩
  f57 := ⟨Try.f51.name, by kernel_rfl, Try.func51⟩
  t22 := by kernel_rfl
  a22 := fun w => by kernel_rfl
  z22 := fun w => by kernel_rfl
  v22 := fun w => by kernel_rfl
  t25 := by kernel_rfl
  a25 := fun w => by kernel_rfl
  z25 := fun w => by kernel_rfl
  v25 := fun w => by kernel_rfl
  t3 := by kernel_rfl
  a3 := fun w => by kernel_rfl
  z3 := fun w => by kernel_rfl
  v3 := fun w => by kernel_rfl
  t39 := by kernel_rfl
  a39 := fun w => by kernel_rfl
  z39 := fun w => by kernel_rfl
  v39 := fun w => by kernel_rfl
  t0 := by kernel_rfl
  a0 := fun w => by kernel_rfl
  z0 := fun w => by kernel_rfl
  v0 := fun w => by kernel_rfl
  t53 := by kernel_rfl
  a53 := fun w => by kernel_rfl
  z53 := fun w => by kernel_rfl
  v53 := fun w => by kernel_rfl
  t55 := by kernel_rfl
  a55 := fun w => by kernel_rfl
  z55 := fun w => by kernel_rfl
  v55 := fun w => by kernel_rfl
  t4 := by kernel_rfl
  a4 := fun w => by kernel_rfl
  z4 := fun w => by kernel_rfl
  v4 := fun w => by kernel_rfl
  t46 := by kernel_rfl
  a46 := fun w => by kernel_rfl
  z46 := fun w => by kernel_rfl
  v46 := fun w => by kernel_rfl
  t45 := by kernel_rfl
  a45 := fun w => by kernel_rfl
  z45 := fun w => by kernel_rfl
  v45 := fun w => by kernel_rfl
  t50 := by kernel_rfl
  a50 := fun w => by kernel_rfl
  z50 := fun w => by kernel_rfl
  v50 := fun w => by kernel_rfl
  t5 := by kernel_rfl
  a5 := fun w => by kernel_rfl
  z5 := fun w => by kernel_rfl
  v5 := fun w => by kernel_rfl
  t9 := by kernel_rfl
  a9 := fun w => by kernel_rfl
  z9 := fun w => by kernel_rfl
  v9 := fun w => by kernel_rfl
  t66 := by kernel_rfl
  a66 := fun w => by kernel_rfl
  z66 := fun w => by kernel_rfl
  v66 := fun w => by kernel_rfl
  t70 := by kernel_rfl
  a70 := fun w => by kernel_rfl
  z70 := fun w => by kernel_rfl
  v70 := fun w => by kernel_rfl
  t76 := by kernel_rfl
  a76 := fun w => by kernel_rfl
  z76 := fun w => by kernel_rfl
  v76 := fun w => by kernel_rfl
  t77 := by kernel_rfl
  a77 := fun w => by kernel_rfl
  z77 := fun w => by kernel_rfl
  v77 := fun w => by kernel_rfl
end Go.Proofs.Ythgjpkemgpkknaa
