/- The sort of changes: the library's contract, laid at this program. -/
import Derived.Test.YtejcemmhhpbchaaChg
import Derived.Shelf.SlSortCmp.NoneTotal
namespace Go.Proofs.Ytejcemmhhpbchaa
open Go.RowKit Go.Shelf Go.Lib Go.Sort

def sortRenC : Ren where
  f := fun x => match x with
    | 6 => 42
    | 15 => 56
    | 14 => 55
    | 28 => 75
    | 29 => 76
    | 20 => 67
    | 21 => 68
    | 22 => 69
    | 23 => 70
    | 24 => 71
    | 25 => 72
    | 26 => 73
    | 27 => 74
    | 46 => 88
    | 47 => 89
    | 48 => 90
    | 49 => 91
    | 50 => 92
    | 57 => 97
    | n => n
  t := fun x => match x with
    | 22 => 49
    | 24 => 77
    | 25 => 89
    | 3 => 3
    | 39 => 101
    | 0 => 0
    | 53 => 116
    | 55 => 118
    | 4 => 4
    | 46 => 110
    | 45 => 109
    | 50 => 43
    | 5 => 5
    | 9 => 9
    | 66 => 126
    | 70 => 130
    | 76 => 135
    | 77 => 136
    | n => n
  g := fun x => x
set_option maxRecDepth 100000 in
theorem sortLaysC : SlLaysF0.n6 Try.prog sortRenC where
  mixed := by kernel_rfl
  f6 := ⟨Try.f42.name, by kernel_rfl, Try.func42⟩
  f15 := Try.func56
  f14 := ⟨Try.f55.name, by kernel_rfl, Try.func55⟩
  f28 := Try.func75
  f29 := Try.func76
  f20 := ⟨Try.f67.name, by kernel_rfl, Try.func67⟩
  f21 := ⟨Try.f68.name, by kernel_rfl, Try.func68⟩
  f22 := ⟨Try.f69.name, by kernel_rfl, Try.func69⟩
  f23 := ⟨Try.f70.name, by kernel_rfl, Try.func70⟩
  f24 := ⟨Try.f71.name, by kernel_rfl, Try.func71⟩
  f25 := ⟨Try.f72.name, by kernel_rfl, Try.func72⟩
  f26 := ⟨Try.f73.name, by kernel_rfl, Try.func73⟩
  f27 := ⟨Try.f74.name, by kernel_rfl, Try.func74⟩
  f46 := ⟨Try.f88.name, by kernel_rfl, Try.func88⟩
  f47 := Try.func89
  f48 := Try.func90
  f49 := ⟨Try.f91.name, by kernel_rfl, Try.func91⟩
  f50 := ⟨Try.f92.name, by kernel_rfl, Try.func92⟩
  f57 := ⟨Try.f97.name, by kernel_rfl, Try.func97⟩
  t22 := by kernel_rfl
  a22 := fun w => by kernel_rfl
  z22 := fun w => by kernel_rfl
  v22 := fun w => by kernel_rfl
  t25 := by kernel_rfl
  a25 := fun w => by kernel_rfl
  z25 := fun w => by kernel_rfl
  v25 := fun w => by kernel_rfl
  t3 := by kernel_rfl
  a3 := fun w => by kernel_rfl
  z3 := fun w => by kernel_rfl
  v3 := fun w => by kernel_rfl
  t39 := by kernel_rfl
  a39 := fun w => by kernel_rfl
  z39 := fun w => by kernel_rfl
  v39 := fun w => by kernel_rfl
  t0 := by kernel_rfl
  a0 := fun w => by kernel_rfl
  z0 := fun w => by kernel_rfl
  v0 := fun w => by kernel_rfl
  t53 := by kernel_rfl
  a53 := fun w => by kernel_rfl
  z53 := fun w => by kernel_rfl
  v53 := fun w => by kernel_rfl
  t55 := by kernel_rfl
  a55 := fun w => by kernel_rfl
  z55 := fun w => by kernel_rfl
  v55 := fun w => by kernel_rfl
  t4 := by kernel_rfl
  a4 := fun w => by kernel_rfl
  z4 := fun w => by kernel_rfl
  v4 := fun w => by kernel_rfl
  t46 := by kernel_rfl
  a46 := fun w => by kernel_rfl
  z46 := fun w => by kernel_rfl
  v46 := fun w => by kernel_rfl
  t45 := by kernel_rfl
  a45 := fun w => by kernel_rfl
  z45 := fun w => by kernel_rfl
  v45 := fun w => by kernel_rfl
  t50 := by kernel_rfl
  a50 := fun w => by kernel_rfl
  z50 := fun w => by kernel_rfl
  v50 := fun w => by kernel_rfl
  t5 := by kernel_rfl
  a5 := fun w => by kernel_rfl
  z5 := fun w => by kernel_rfl
  v5 := fun w => by kernel_rfl
  t9 := by kernel_rfl
  a9 := fun w => by kernel_rfl
  z9 := fun w => by kernel_rfl
  v9 := fun w => by kernel_rfl
  t66 := by kernel_rfl
  a66 := fun w => by kernel_rfl
  z66 := fun w => by kernel_rfl
  v66 := fun w => by kernel_rfl
  t70 := by kernel_rfl
  a70 := fun w => by kernel_rfl
  z70 := fun w => by kernel_rfl
  v70 := fun w => by kernel_rfl
  t76 := by kernel_rfl
  a76 := fun w => by kernel_rfl
  z76 := fun w => by kernel_rfl
  v76 := fun w => by kernel_rfl
  t77 := by kernel_rfl
  a77 := fun w => by kernel_rfl
  z77 := fun w => by kernel_rfl
  v77 := fun w => by kernel_rfl
end Go.Proofs.Ytejcemmhhpbchaa
