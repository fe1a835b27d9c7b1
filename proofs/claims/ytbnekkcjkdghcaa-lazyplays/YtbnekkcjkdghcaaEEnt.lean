/- Entries of a queue: an item, and what it is ordered by. -/
import Derived.Test.YtbnekkcjkdghcaaBetter
import Derived.Test.YtbnekkcjkdghcaaOrd
import Derived.Test.YtbnekkcjkdghcaaHeapP
namespace Go.Proofs.Ytbnekkcjkdghcaa
open Go.RowKit Go.Maps Go.Shelf
open Go.Sort (grow grow_empty grow_grow alloc_eq_grow heap_grow_old)

abbrev Ent := Int × Int × Int × Int × Int × Int
def entE : Elt Ent where
  ty := 61
  sl := 84
  n := 6
  bytes := 48
  zero := .agg #[.int .i64 0, .int .i64 0, .int .i64 0, .int .i64 0, .int .i64 0, .int .i64 0]
  enc := fun p => [.int .i64 p.1, .int .i64 p.2.1, .int .i64 p.2.2.1, .int .i64 p.2.2.2.1, .int .i64 p.2.2.2.2.1, .int .i64 p.2.2.2.2.2]
  under := Try.underlying84
  info := by kernel_rfl
  pos := by decide
  small := by decide
  zlen := by kernel_rfl
  len := fun _ => rfl
  one := fun x u hu => by
    simp only [List.mem_cons, List.not_mem_nil, or_false] at hu
    rcases hu with rfl | rfl | rfl | rfl | rfl | rfl <;> rfl
def entV (x : Ent) : Value := .agg #[.int .i64 x.1, .int .i64 x.2.1, .int .i64 x.2.2.1, .int .i64 x.2.2.2.1, .int .i64 x.2.2.2.2.1, .int .i64 x.2.2.2.2.2]
/-- The entry of an item whose symbols are there. -/
def entOf (x : Item) : Ent := (x.1, x.2.1, x.2.2, x.1, x.2.1, x.2.2)
def itemOf (x : Ent) : Item := (x.1, x.2.1, x.2.2.1)
def byOf (x : Ent) : Item := x.2.2.2
def FitsE (x : Ent) : Prop := byOf x = itemOf x ∧ FitsI (itemOf x)
set_option maxRecDepth 100000 in
theorem item_ent (x : Item) : itemOf (entOf x) = x := rfl
set_option maxRecDepth 100000 in
theorem fits_ent {x : Item} (h : FitsI x) : FitsE (entOf x) := ⟨rfl, h⟩
set_option maxRecDepth 100000 in
theorem fits_form {x : Ent} (h : FitsE x) : x = entOf (itemOf x) := by
  obtain ⟨a, b, c, d⟩ := x
  have h1 : d = (a, b, c) := h.1
  subst h1; rfl
set_option maxRecDepth 100000 in
theorem ent_inj {x y : Item} (h : entOf x = entOf y) : x = y := congrArg itemOf h
set_option maxRecDepth 100000 in
theorem fitsE_zero : FitsE (0, 0, 0, 0, 0, 0) := ⟨rfl, by unfold FitsI FitsN itemOf; simp⟩
/-- The order of entries. -/
def entBetter (J : List Joint) (x y : Ent) : Bool := betterOf J (byOf x) (byOf y)
set_option maxRecDepth 100000 in
theorem entBetter_ent (J : List Joint) (x y : Item) : entBetter J (entOf x) (entOf y) = betterOf J x y := rfl
set_option maxRecDepth 100000 in
theorem better_ranks (J : List Joint) : Ranks (betterOf J) where
  asym := fun _ _ h => better_asymm h
  ntr := fun a b c h k => by
    cases e : betterOf J a c with
    | false => rfl
    | true =>
      rcases better_total h with h1 | h1
      · rw [better_trans h1 e] at k; cases k
      · rw [better_left h1] at e; rw [e] at k; cases k
set_option maxRecDepth 100000 in
theorem entBetter_ranks (J : List Joint) : Ranks (entBetter J) where
  asym := fun _ _ h => (better_ranks J).asym _ _ h
  ntr := fun _ _ _ h k => (better_ranks J).ntr _ _ _ h k
end Go.Proofs.Ytbnekkcjkdghcaa
