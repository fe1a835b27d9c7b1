/- The sort of changes: the library's contract, laid at this program. -/
import Derived.Test.YtejcemmhhpbchaaGreatChg
import Derived.Shelf.SlSortCmp.NoneTotal
namespace Go.Proofs.YtejcemmhhpbchaaGreat
open Go.RowKit Go.Shelf Go.Lib Go.Sort

def sortRenC : Ren where
  f := fun x => match x with
    | 6 => 58
    | 15 => 73
    | 14 => 72
    | 28 => 92
    | 29 => 93
    | 20 => 84
    | 21 => 85
    | 22 => 86
    | 23 => 87
    | 24 => 88
    | 25 => 89
    | 26 => 90
    | 27 => 91
    | 46 => 103
    | 47 => 104
    | 48 => 105
    | 49 => 106
    | 50 => 107
    | 57 => 112
    | n => n
  t := fun x => match x with
    | 22 => 74
    | 24 => 101
    | 25 => 111
    | 3 => 3
    | 39 => 122
    | 0 => 0
    | 53 => 139
    | 55 => 128
    | 4 => 4
    | 46 => 133
    | 45 => 132
    | 50 => 71
    | 5 => 5
    | 9 => 9
    | 66 => 146
    | 70 => 150
    | 76 => 155
    | 77 => 30
    | n => n
  g := fun x => x
set_option maxRecDepth 100000 in
theorem sortLaysC : SlLaysF0.n6 Tryz.prog sortRenC where
  mixed := by kernel_rfl
  f6 := ⟨Tryz.f58.name, by kernel_rfl, Tryz.func58⟩
  f15 := Tryz.func73
  f14 := ⟨Tryz.f72.name, by kernel_rfl, Tryz.func72⟩
  f28 := Tryz.func92
  f29 := Tryz.func93
  f20 := ⟨Tryz.f84.name, by kernel_rfl, Tryz.func84⟩
  f21 := ⟨Tryz.f85.name, by kernel_rfl, Tryz.func85⟩
  f22 := ⟨Tryz.f86.name, by kernel_rfl, Tryz.func86⟩
  f23 := ⟨Tryz.f87.name, by kernel_rfl, Tryz.func87⟩
  f24 := ⟨Tryz.f88.name, by kernel_rfl, Tryz.func88⟩
  f25 := ⟨Tryz.f89.name, by kernel_rfl, Tryz.func89⟩
  f26 := ⟨Tryz.f90.name, by kernel_rfl, Tryz.func90⟩
  f27 := ⟨Tryz.f91.name, by kernel_rfl, Tryz.func91⟩
  f46 := ⟨Tryz.f103.name, by kernel_rfl, Tryz.func103⟩
  f47 := Tryz.func104
  f48 := Tryz.func105
  f49 := ⟨Tryz.f106.name, by kernel_rfl, Tryz.func106⟩
  f50 := ⟨Tryz.f107.name, by kernel_rfl, Tryz.func107⟩
  f57 := ⟨Tryz.f112.name, by kernel_rfl, Tryz.func112⟩
  t22 := by kernel_rfl
  a22 := fun w => by kernel_rfl
  z22 := fun w => by kernel_rfl
  v22 := fun w => by kernel_rfl
  t25 := by kernel_rfl
  a25 := fun w => by kernel_rfl
  z25 := fun w => by kernel_rfl
  v25 := fun w => by kernel_rfl
  t3 := by kernel_rfl
  a3 := fun w => by kernel_rfl
  z3 := fun w => by kernel_rfl
  v3 := fun w => by kernel_rfl
  t39 := by kernel_rfl
  a39 := fun w => by kernel_rfl
  z39 := fun w => by kernel_rfl
  v39 := fun w => by kernel_rfl
  t0 := by kernel_rfl
  a0 := fun w => by kernel_rfl
  z0 := fun w => by kernel_rfl
  v0 := fun w => by kernel_rfl
  t53 := by kernel_rfl
  a53 := fun w => by kernel_rfl
  z53 := fun w => by kernel_rfl
  v53 := fun w => by kernel_rfl
  t55 := by kernel_rfl
  a55 := fun w => by kernel_rfl
  z55 := fun w => by kernel_rfl
  v55 := fun w => by kernel_rfl
  t4 := by kernel_rfl
  a4 := fun w => by kernel_rfl
  z4 := fun w => by kernel_rfl
  v4 := fun w => by kernel_rfl
  t46 := by kernel_rfl
  a46 := fun w => by kernel_rfl
  z46 := fun w => by kernel_rfl
  v46 := fun w => by kernel_rfl
  t45 := by kernel_rfl
  a45 := fun w => by kernel_rfl
  z45 := fun w => by kernel_rfl
  v45 := fun w => by kernel_rfl
  t50 := by kernel_rfl
  a50 := fun w => by kernel_rfl
  z50 := fun w => by kernel_rfl
  v50 := fun w => by kernel_rfl
  t5 := by kernel_rfl
  a5 := fun w => by kernel_rfl
  z5 := fun w => by kernel_rfl
  v5 := fun w => by kernel_rfl
  t9 := by kernel_rfl
  a9 := fun w => by kernel_rfl
  z9 := fun w => by kernel_rfl
  v9 := fun w => by kernel_rfl
  t66 := by kernel_rfl
  a66 := fun w => by kernel_rfl
  z66 := fun w => by kernel_rfl
  v66 := fun w => by kernel_rfl
  t70 := by kernel_rfl
  a70 := fun w => by kernel_rfl
  z70 := fun w => by kernel_rfl
  v70 := fun w => by kernel_rfl
  t76 := by kernel_rfl
  a76 := fun w => by kernel_rfl
  z76 := fun w => by kernel_rfl
  v76 := fun w => by kernel_rfl
  t77 := by kernel_rfl
  a77 := fun w => by kernel_rfl
  z77 := fun w => by kernel_rfl
  v77 := fun w => by kernel_rfl
end Go.Proofs.YtejcemmhhpbchaaGreat
