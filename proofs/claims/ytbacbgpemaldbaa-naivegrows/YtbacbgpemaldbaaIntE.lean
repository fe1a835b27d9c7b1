/- Rows of numbers as elements of one cell: read, owned, cut. -/
import Derived.Test.YtbacbgpemaldbaaElts
namespace Go.Proofs.Ytbacbgpemaldbaa
open Go.RowKit

def intE : Elt Int where
  ty := 3
  sl := 31
  n := 1
  bytes := 8
  zero := .int .i64 0
  enc := fun t => [.int .i64 t]
  under := Try.underlying31
  info := by kernel_rfl
  pos := by decide
  small := by decide
  zlen := by kernel_rfl
  len := fun _ => rfl
  one := fun x u hu => by
    simp only [List.mem_cons, List.not_mem_nil, or_false] at hu
    rcases hu with rfl; rfl
set_option maxRecDepth 100000 in
theorem ints_cell {w wr : World} {L : List Int} {ad : Addr} {n cap : Nat} (h : eltsAt intE w (.slice (some ad) n cap) L) (hb : Below w.heap.size w wr) {k : Nat} (hk : k < L.length) : wr.cell? (ad.add k) = some (.int .i64 L[k]) := by
  have := elts_at h hb hk 0 _ rfl
  rwa [show intE.n = 1 from rfl, Nat.mul_one, Nat.add_zero] at this
set_option maxRecDepth 100000 in
theorem sizeInts (w : World) : (sizeOf (Try.prog.elem 31)).run Try.prog w = .ok 1 w := by
  obtain ⟨j0, hj, hy0, hy1, hy2⟩ := info_parts intE.info
  have he : Try.prog.elem 31 = intE.ty := by kernel_rfl
  rw [he]
  simp [sizeOf, typeInfo, hj, hy1]
  rfl
set_option maxRecDepth 100000 in
theorem elemInts : Try.prog.underlying 31 = some (.slice (Try.prog.elem 31)) := by kernel_rfl
set_option maxRecDepth 100000 in
/-- 'x[:k]' of a row of numbers. -/
theorem ints_head (a : Option Addr) (len cap k : Nat) (K : Int) (hK : K = (k : Int)) (hk : k ≤ cap) (hn : nilNone (.slice a len cap)) : ∃ v, (∀ w, (Instr.slice 31 (.slice a len cap) none (some (.int .i64 K)) none).run Try.prog w = .ok v w) ∧ nilNone v ∧
    ∀ w L, eltsAt intE w (.slice a len cap) L → k ≤ L.length → eltsAt intE w v (L.take k) := by
  subst hK
  refine ⟨sliced a 0 k cap 1, fun w => ?_, ?_, ?_⟩
  · rw [run_slice_h w 31 a len cap elemInts .i64 k (by omega) (by omega), sizeInts]
    simp
  · intro n c e
    unfold sliced at e
    cases a with
    | none => have := hn _ _ rfl; subst this; simp at e; omega
    | some a => simp at e; split at e <;> simp at e
  · rintro w L ⟨a', cap', e, hc⟩ hkL
    obtain ⟨rfl, rfl, rfl⟩ := Value.slice.inj e
    unfold sliced
    refine ⟨_, cap - 0, by rw [List.length_take, Nat.min_eq_left hkL]; rfl, fun j hj => ?_⟩
    rw [List.length_take] at hj
    obtain ⟨ad, rfl, hlt, hcj⟩ := hc j (by omega)
    refine ⟨ad, ?_, hlt, fun i u hu => hcj i u ?_⟩
    · split <;> simp [add_zero_any]
    · rw [List.getElem_take] at hu; exact hu
set_option maxRecDepth 100000 in
/-- 'x[l:]' of a row of numbers. -/
theorem ints_tail (a : Option Addr) (len cap l : Nat) (K : Int) (hK : K = (l : Int)) (hl : l ≤ len) (hc : len ≤ cap) (hn : nilNone (.slice a len cap)) : ∃ v, (∀ w, (Instr.slice 31 (.slice a len cap) (some (.int .i64 K)) none none).run Try.prog w = .ok v w) ∧ nilNone v ∧
    ∀ w L, eltsAt intE w (.slice a len cap) L → eltsAt intE w v (L.drop l) := by
  subst hK
  refine ⟨sliced a l len cap 1, fun w => ?_, ?_, ?_⟩
  · rw [run_slice_l w 31 a len cap elemInts .i64 l (by omega) (by omega), sizeInts]
    simp
  · intro n c e
    unfold sliced at e
    cases a with
    | none => have := hn _ _ rfl; subst this; simp at e; omega
    | some a => simp at e; split at e <;> simp at e
  · rintro w L ⟨a', cap', e, hcL⟩
    obtain ⟨rfl, rfl, rfl⟩ := Value.slice.inj e
    unfold sliced
    refine ⟨_, cap - l, by rw [List.length_drop], fun j hj => ?_⟩
    rw [List.length_drop] at hj
    obtain ⟨ad, rfl, hlt, hcj⟩ := hcL (l + j) (by omega)
    refine ⟨ad.add l, ?_, by rw [add_block]; exact hlt, fun i u hu => ?_⟩
    · rw [if_neg (by omega)]; simp
    · rw [List.getElem_drop] at hu
      have := hcj i u hu
      rw [show intE.n = 1 from rfl] at this ⊢
      rw [add_add_any, show l + (j * 1 + i) = (l + j) * 1 + i by omega]
      exact this
end Go.Proofs.Ytbacbgpemaldbaa
