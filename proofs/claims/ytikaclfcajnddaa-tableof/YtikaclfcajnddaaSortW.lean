/- The sort of words by their texts: the library's contract, laid at this program. -/
import Derived.Test.YtikaclfcajnddaaWRow
import Derived.Shelf.SlSortCmp.NoneTotal
import Derived.Shelf.Small.Strs
namespace Go.Proofs.Ytikaclfcajnddaa
open Go.RowKit Go.Shelf Go.Lib Go.Sort

def sortRen : Ren where
  f := fun x => match x with
    | 6 => 32
    | 15 => 39
    | 14 => 38
    | 28 => 49
    | 29 => 50
    | 20 => 41
    | 21 => 42
    | 22 => 43
    | 23 => 44
    | 24 => 45
    | 25 => 46
    | 26 => 47
    | 27 => 48
    | 46 => 52
    | 47 => 53
    | 48 => 54
    | 49 => 55
    | 50 => 56
    | 57 => 57
    | n => n
  t := fun x => match x with
    | 22 => 22
    | 24 => 36
    | 25 => 66
    | 3 => 3
    | 39 => 74
    | 0 => 0
    | 53 => 83
    | 55 => 69
    | 4 => 4
    | 46 => 77
    | 45 => 76
    | 50 => 30
    | 5 => 5
    | 9 => 9
    | 66 => 85
    | 70 => 89
    | 76 => 91
    | 77 => 28
    | n => n
  g := fun x => x
theorem sortLays : SlLaysF0.n6 Try.prog sortRen where
  mixed := by kernel_rfl
  f6 := ⟨Try.f32.name, by kernel_rfl, Try.func32⟩
  f15 := Try.func39
  f14 := ⟨Try.f38.name, by kernel_rfl, Try.func38⟩
  f28 := Try.func49
  f29 := Try.func50
  f20 := ⟨Try.f41.name, by kernel_rfl, Try.func41⟩
  f21 := ⟨Try.f42.name, by kernel_rfl, Try.func42⟩
  f22 := ⟨Try.f43.name, by kernel_rfl, Try.func43⟩
  f23 := ⟨Try.f44.name, by kernel_rfl, Try.func44⟩
  f24 := ⟨Try.f45.name, by kernel_rfl, Try.func45⟩
  f25 := ⟨Try.f46.name, by kernel_rfl, Try.func46⟩
  f26 := ⟨Try.f47.name, by kernel_rfl, Try.func47⟩
  f27 := ⟨Try.f48.name, by kernel_rfl, Try.func48⟩
  f46 := ⟨Try.f52.name, by kernel_rfl, Try.func52⟩
  f47 := Try.func53
  f48 := Try.func54
  f49 := ⟨Try.f55.name, by kernel_rfl, Try.func55⟩
  f50 := ⟨Try.f56.name, by kernel_rfl, Try.func56⟩
  f57 := ⟨Try.f57.name, by kernel_rfl, Try.func57⟩
  t22 := by kernel_rfl
  a22 := fun w => by kernel_rfl
  z22 := fun w => by kernel_rfl
  v22 := fun w => by kernel_rfl
  t25 := by kernel_rfl
  a25 := fun w => by kernel_rfl
  z25 := fun w => by kernel_rfl
  v25 := fun w => by kernel_rfl
  t3 := by kernel_rfl
  a3 := fun w => by kernel_rfl
  z3 := fun w => by kernel_rfl
  v3 := fun w => by kernel_rfl
  t39 := by kernel_rfl
  a39 := fun w => by kernel_rfl
  z39 := fun w => by kernel_rfl
  v39 := fun w => by kernel_rfl
  t0 := by kernel_rfl
  a0 := fun w => by kernel_rfl
  z0 := fun w => by kernel_rfl
  v0 := fun w => by kernel_rfl
  t53 := by kernel_rfl
  a53 := fun w => by kernel_rfl
  z53 := fun w => by kernel_rfl
  v53 := fun w => by kernel_rfl
  t55 := by kernel_rfl
  a55 := fun w => by kernel_rfl
  z55 := fun w => by kernel_rfl
  v55 := fun w => by kernel_rfl
  t4 := by kernel_rfl
  a4 := fun w => by kernel_rfl
  z4 := fun w => by kernel_rfl
  v4 := fun w => by kernel_rfl
  t46 := by kernel_rfl
  a46 := fun w => by kernel_rfl
  z46 := fun w => by kernel_rfl
  v46 := fun w => by kernel_rfl
  t45 := by kernel_rfl
  a45 := fun w => by kernel_rfl
  z45 := fun w => by kernel_rfl
  v45 := fun w => by kernel_rfl
  t50 := by kernel_rfl
  a50 := fun w => by kernel_rfl
  z50 := fun w => by kernel_rfl
  v50 := fun w => by kernel_rfl
  t5 := by kernel_rfl
  a5 := fun w => by kernel_rfl
  z5 := fun w => by kernel_rfl
  v5 := fun w => by kernel_rfl
  t9 := by kernel_rfl
  a9 := fun w => by kernel_rfl
  z9 := fun w => by kernel_rfl
  v9 := fun w => by kernel_rfl
  t66 := by kernel_rfl
  a66 := fun w => by kernel_rfl
  z66 := fun w => by kernel_rfl
  v66 := fun w => by kernel_rfl
  t70 := by kernel_rfl
  a70 := fun w => by kernel_rfl
  z70 := fun w => by kernel_rfl
  v70 := fun w => by kernel_rfl
  t76 := by kernel_rfl
  a76 := fun w => by kernel_rfl
  z76 := fun w => by kernel_rfl
  v76 := fun w => by kernel_rfl
  t77 := by kernel_rfl
  a77 := fun w => by kernel_rfl
  z77 := fun w => by kernel_rfl
  v77 := fun w => by kernel_rfl
def cmpRen : Ren where
  f := fun x => match x with
    | 106 => 34
    | 213 => 40
    | 265 => 51
    | n => n
  t := fun x => x
  g := fun x => x
theorem cmpLays : Lays.n106 Try.prog cmpRen where
  mixed := by kernel_rfl
  f106 := by kernel_rfl
  f213 := by kernel_rfl
  f265 := by kernel_rfl
  t3 := by kernel_rfl
  a3 := fun w => by kernel_rfl
  z3 := fun w => by kernel_rfl
  v3 := fun w => by kernel_rfl
  t9 := by kernel_rfl
  a9 := fun w => by kernel_rfl
  z9 := fun w => by kernel_rfl
  v9 := fun w => by kernel_rfl
theorem compare_any (a b : ByteArray) (w : World) : Calls Try.prog 34 #[.string a, .string b] w fun e w' => e = .returned (.int .i64 (Lib.compareBytes (bs a) (bs b))) ∧ w' = w := Any.strings_Compare cmpLays a b w

end Go.Proofs.Ytikaclfcajnddaa
