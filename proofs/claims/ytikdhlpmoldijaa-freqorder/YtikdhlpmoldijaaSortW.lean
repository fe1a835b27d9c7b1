/- The sort of words by their texts: the library's contract, laid at this program. -/
import Derived.Test.YtikdhlpmoldijaaWRow
import Derived.Shelf.SlSortCmp.NoneTotal
import Derived.Shelf.Small.Strs
namespace Go.Proofs.Ytikdhlpmoldijaa
open Go.RowKit Go.Shelf Go.Lib Go.Sort

def sortRen : Ren where
  f := fun x => match x with
    | 6 => 23
    | 15 => 28
    | 14 => 27
    | 28 => 38
    | 29 => 39
    | 20 => 30
    | 21 => 31
    | 22 => 32
    | 23 => 33
    | 24 => 34
    | 25 => 35
    | 26 => 36
    | 27 => 37
    | 46 => 41
    | 47 => 42
    | 48 => 43
    | 49 => 44
    | 50 => 45
    | 57 => 46
    | n => n
  t := fun x => match x with
    | 22 => 22
    | 24 => 30
    | 25 => 57
    | 3 => 3
    | 39 => 62
    | 0 => 0
    | 53 => 71
    | 55 => 73
    | 4 => 4
    | 46 => 65
    | 45 => 64
    | 50 => 52
    | 5 => 5
    | 9 => 9
    | 66 => 74
    | 70 => 78
    | 76 => 80
    | 77 => 81
    | n => n
  g := fun x => x
theorem sortLays : SlLaysF0.n6 Try.prog sortRen where
  mixed := by kernel_rfl
  f6 := ⟨Try.f23.name, by kernel_rfl, Try.func23⟩
  f15 := Try.func28
  f14 := ⟨Try.f27.name, by kernel_rfl, Try.func27⟩
  f28 := Try.func38
  f29 := Try.func39
  f20 := ⟨Try.f30.name, by kernel_rfl, Try.func30⟩
  f21 := ⟨Try.f31.name, by kernel_rfl, Try.func31⟩
  f22 := ⟨Try.f32.name, by kernel_rfl, Try.func32⟩
  f23 := ⟨Try.f33.name, by kernel_rfl, Try.func33⟩
  f24 := ⟨Try.f34.name, by kernel_rfl, Try.func34⟩
  f25 := ⟨Try.f35.name, by kernel_rfl, Try.func35⟩
  f26 := ⟨Try.f36.name, by kernel_rfl, Try.func36⟩
  f27 := ⟨Try.f37.name, by kernel_rfl, Try.func37⟩
  f46 := ⟨Try.f41.name, by kernel_rfl, Try.func41⟩
  f47 := Try.func42
  f48 := Try.func43
  f49 := ⟨Try.f44.name, by kernel_rfl, Try.func44⟩
  f50 := ⟨Try.f45.name, by kernel_rfl, Try.func45⟩
  f57 := ⟨Try.f46.name, by kernel_rfl, Try.func46⟩
  t22 := by kernel_rfl
  a22 := fun w => by kernel_rfl
  z22 := fun w => by kernel_rfl
  v22 := fun w => by kernel_rfl
  t25 := by kernel_rfl
  a25 := fun w => by kernel_rfl
  z25 := fun w => by kernel_rfl
  v25 := fun w => by kernel_rfl
  t3 := by kernel_rfl
  a3 := fun w => by kernel_rfl
  z3 := fun w => by kernel_rfl
  v3 := fun w => by kernel_rfl
  t39 := by kernel_rfl
  a39 := fun w => by kernel_rfl
  z39 := fun w => by kernel_rfl
  v39 := fun w => by kernel_rfl
  t0 := by kernel_rfl
  a0 := fun w => by kernel_rfl
  z0 := fun w => by kernel_rfl
  v0 := fun w => by kernel_rfl
  t53 := by kernel_rfl
  a53 := fun w => by kernel_rfl
  z53 := fun w => by kernel_rfl
  v53 := fun w => by kernel_rfl
  t55 := by kernel_rfl
  a55 := fun w => by kernel_rfl
  z55 := fun w => by kernel_rfl
  v55 := fun w => by kernel_rfl
  t4 := by kernel_rfl
  a4 := fun w => by kernel_rfl
  z4 := fun w => by kernel_rfl
  v4 := fun w => by kernel_rfl
  t46 := by kernel_rfl
  a46 := fun w => by kernel_rfl
  z46 := fun w => by kernel_rfl
  v46 := fun w => by kernel_rfl
  t45 := by kernel_rfl
  a45 := fun w => by kernel_rfl
  z45 := fun w => by kernel_rfl
  v45 := fun w => by kernel_rfl
  t50 := by kernel_rfl
  a50 := fun w => by kernel_rfl
  z50 := fun w => by kernel_rfl
  v50 := fun w => by kernel_rfl
  t5 := by kernel_rfl
  a5 := fun w => by kernel_rfl
  z5 := fun w => by kernel_rfl
  v5 := fun w => by kernel_rfl
  t9 := by kernel_rfl
  a9 := fun w => by kernel_rfl
  z9 := fun w => by kernel_rfl
  v9 := fun w => by kernel_rfl
  t66 := by kernel_rfl
  a66 := fun w => by kernel_rfl
  z66 := fun w => by kernel_rfl
  v66 := fun w => by kernel_rfl
  t70 := by kernel_rfl
  a70 := fun w => by kernel_rfl
  z70 := fun w => by kernel_rfl
  v70 := fun w => by kernel_rfl
  t76 := by kernel_rfl
  a76 := fun w => by kernel_rfl
  z76 := fun w => by kernel_rfl
  v76 := fun w => by kernel_rfl
  t77 := by kernel_rfl
  a77 := fun w => by kernel_rfl
  z77 := fun w => by kernel_rfl
  v77 := fun w => by kernel_rfl
def cmpRen : Ren where
  f := fun x => match x with
    | 106 => 25
    | 213 => 29
    | 265 => 40
    | n => n
  t := fun x => x
  g := fun x => x
theorem cmpLays : Lays.n106 Try.prog cmpRen where
  mixed := by kernel_rfl
  f106 := by kernel_rfl
  f213 := by kernel_rfl
  f265 := by kernel_rfl
  t3 := by kernel_rfl
  a3 := fun w => by kernel_rfl
  z3 := fun w => by kernel_rfl
  v3 := fun w => by kernel_rfl
  t9 := by kernel_rfl
  a9 := fun w => by kernel_rfl
  z9 := fun w => by kernel_rfl
  v9 := fun w => by kernel_rfl
theorem compare_any (a b : ByteArray) (w : World) : Calls Try.prog 25 #[.string a, .string b] w fun e w' => e = .returned (.int .i64 (Lib.compareBytes (bs a) (bs b))) ∧ w' = w := Any.strings_Compare cmpLays a b w

end Go.Proofs.Ytikdhlpmoldijaa
