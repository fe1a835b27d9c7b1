/- The sort of pairs: the library's contract, laid at this program. -/
import Derived.Test.YtejcemmhhpbchaaGreatCmpPV
import Derived.Shelf.SlSortCmp.NoneTotal
namespace Go.Proofs.YtejcemmhhpbchaaGreat
open Go.RowKit Go.Shelf Go.Lib Go.Sort

def sortRenP : Ren where
  f := fun x => match x with
    | 6 => 68
    | 15 => 73
    | 14 => 81
    | 28 => 92
    | 29 => 93
    | 20 => 95
    | 21 => 96
    | 22 => 97
    | 23 => 98
    | 24 => 99
    | 25 => 100
    | 26 => 101
    | 27 => 102
    | 46 => 109
    | 47 => 104
    | 48 => 105
    | 49 => 110
    | 50 => 111
    | 57 => 113
    | n => n
  t := fun x => match x with
    | 22 => 23
    | 24 => 37
    | 25 => 119
    | 3 => 3
    | 39 => 122
    | 0 => 0
    | 53 => 139
    | 55 => 128
    | 4 => 4
    | 46 => 133
    | 45 => 132
    | 50 => 71
    | 5 => 5
    | 9 => 9
    | 66 => 146
    | 70 => 150
    | 76 => 155
    | 77 => 30
    | n => n
  g := fun x => x
set_option maxRecDepth 100000 in
theorem sortLaysP : SlLaysF0.n6 Tryz.prog sortRenP where
  mixed := by kernel_rfl
  f6 := ⟨Tryz.f68.name, by kernel_rfl, Tryz.func68⟩
  f15 := Tryz.func73
  f14 := ⟨Tryz.f81.name, by kernel_rfl, Tryz.func81⟩
  f28 := Tryz.func92
  f29 := Tryz.func93
  f20 := ⟨Tryz.f95.name, by kernel_rfl, Tryz.func95⟩
  f21 := ⟨Tryz.f96.name, by kernel_rfl, Tryz.func96⟩
  f22 := ⟨Tryz.f97.name, by kernel_rfl, Tryz.func97⟩
  f23 := ⟨Tryz.f98.name, by kernel_rfl, Tryz.func98⟩
  f24 := ⟨Tryz.f99.name, by kernel_rfl, Tryz.func99⟩
  f25 := ⟨Tryz.f100.name, by kernel_rfl, Tryz.func100⟩
  f26 := ⟨Tryz.f101.name, by kernel_rfl, Tryz.func101⟩
  f27 := ⟨Tryz.f102.name, by kernel_rfl, Tryz.func102⟩
  f46 := ⟨Tryz.f109.name, by kernel_rfl, Tryz.func109⟩
  f47 := Tryz.func104
  f48 := Tryz.func105
  f49 := ⟨Tryz.f110.name, by kernel_rfl, Tryz.func110⟩
  f50 := ⟨Tryz.f111.name, by kernel_rfl, Tryz.func111⟩
  f57 := ⟨Tryz.f113.name, by kernel_rfl, Tryz.func113⟩
  t22 := by kernel_rfl
  a22 := fun w => by kernel_rfl
  z22 := fun w => by kernel_rfl
  v22 := fun w => by kernel_rfl
  t25 := by kernel_rfl
  a25 := fun w => by kernel_rfl
  z25 := fun w => by kernel_rfl
  v25 := fun w => by kernel_rfl
  t3 := by kernel_rfl
  a3 := fun w => by kernel_rfl
  z3 := fun w => by kernel_rfl
  v3 := fun w => by kernel_rfl
  t39 := by kernel_rfl
  a39 := fun w => by kernel_rfl
  z39 := fun w => by kernel_rfl
  v39 := fun w => by kernel_rfl
  t0 := by kernel_rfl
  a0 := fun w => by kernel_rfl
  z0 := fun w => by kernel_rfl
  v0 := fun w => by kernel_rfl
  t53 := by kernel_rfl
  a53 := fun w => by kernel_rfl
  z53 := fun w => by kernel_rfl
  v53 := fun w => by kernel_rfl
  t55 := by kernel_rfl
  a55 := fun w => by kernel_rfl
  z55 := fun w => by kernel_rfl
  v55 := fun w => by kernel_rfl
  t4 := by kernel_rfl
  a4 := fun w => by kernel_rfl
  z4 := fun w => by kernel_rfl
  v4 := fun w => by kernel_rfl
  t46 := by kernel_rfl
  a46 := fun w => by kernel_rfl
  z46 := fun w => by kernel_rfl
  v46 := fun w => by kernel_rfl
  t45 := by kernel_rfl
  a45 := fun w => by kernel_rfl
  z45 := fun w => by kernel_rfl
  v45 := fun w => by kernel_rfl
  t50 := by kernel_rfl
  a50 := fun w => by kernel_rfl
  z50 := fun w => by kernel_rfl
  v50 := fun w => by kernel_rfl
  t5 := by kernel_rfl
  a5 := fun w => by kernel_rfl
  z5 := fun w => by kernel_rfl
  v5 := fun w => by kernel_rfl
  t9 := by kernel_rfl
  a9 := fun w => by kernel_rfl
  z9 := fun w => by kernel_rfl
  v9 := fun w => by kernel_rfl
  t66 := by kernel_rfl
  a66 := fun w => by kernel_rfl
  z66 := fun w => by kernel_rfl
  v66 := fun w => by kernel_rfl
  t70 := by kernel_rfl
  a70 := fun w => by kernel_rfl
  z70 := fun w => by kernel_rfl
  v70 := fun w => by kernel_rfl
  t76 := by kernel_rfl
  a76 := fun w => by kernel_rfl
  z76 := fun w => by kernel_rfl
  v76 := fun w => by kernel_rfl
  t77 := by kernel_rfl
  a77 := fun w => by kernel_rfl
  z77 := fun w => by kernel_rfl
  v77 := fun w => by kernel_rfl
end Go.Proofs.YtejcemmhhpbchaaGreat
