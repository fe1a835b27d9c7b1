/- Steps as arguments. -/
import Derived.Test.YtdnokkmnpgdplaaRR
import Derived.Lib.SmallJoins
namespace Go.Proofs.Ytdnokkmnpgdplaa
open Go.ChangeShapes Go.WideShapes Go.RowKit

abbrev Item := Int × Int × Int
def itemE : Elt Item where
  ty := 34
  sl := 22
  n := 3
  bytes := 24
  zero := .agg #[.int .i64 0, .int .i64 0, .int .i64 0]
  enc := fun p => [.int .i64 p.1, .int .i64 p.2.1, .int .i64 p.2.2]
  under := Try.underlying22
  info := by kernel_rfl
  pos := by decide
  small := by decide
  zlen := by kernel_rfl
  len := fun _ => rfl
  one := fun x u hu => by
    simp only [List.mem_cons, List.not_mem_nil, or_false] at hu
    rcases hu with rfl | rfl | rfl <;> rfl
def itemV (x : Item) : Value := .agg #[.int .i64 x.1, .int .i64 x.2.1, .int .i64 x.2.2]
def FitsN (x : Int) : Prop := -9223372036854775808 ≤ x ∧ x ≤ 9223372036854775807
def FitsI (x : Item) : Prop := FitsN x.1 ∧ FitsN x.2.1 ∧ FitsN x.2.2
theorem steps_at {w wr : World} {L : List Item} {ad : Addr} {n cap : Nat} (h : eltsAt itemE w (.slice (some ad) n cap) L) (hb : Below w.heap.size w wr) {k : Nat} (hk : k < L.length) :
    wr.cell? (ad.add (k * 3)) = some (.int .i64 L[k].1) ∧ wr.cell? ⟨(ad.add (k * 3)).block, (ad.add (k * 3)).off + 1, none⟩ = some (.int .i64 L[k].2.1) ∧ wr.cell? ⟨(ad.add (k * 3)).block, (ad.add (k * 3)).off + 2, none⟩ = some (.int .i64 L[k].2.2) := by
  have := elts_at h hb hk
  exact ⟨this 0 _ rfl, by rw [← two_cell]; exact this 1 _ rfl, by rw [← cell3]; exact this 2 _ rfl⟩
theorem Try.cellsItem : Try.prog.cellsOf 34 = 3 := by kernel_rfl
theorem Try.cellsPair : Try.prog.cellsOf 32 = 2 := by kernel_rfl
theorem item_read {H : Type} {enc : TypeId × Value → H} {W : World} {base fuel : Nat} {spare : Nat → Bool} {held : Bool} {v0 v1 v2 : Value} {x : DataW H × List MemPlace} (h : DataW.trod enc Try.prog W base spare held fuel 34 [v0, v1, v2] = some x) :
    ∃ q : Item, v0 = .int .i64 q.1 ∧ v1 = .int .i64 q.2.1 ∧ v2 = .int .i64 q.2.2 ∧ FitsI q := by
  obtain ⟨xs, k, hk, hxy, _, hxl, hf⟩ := DataW.trod_struct Try.underlying34 h
  have g0 := hf 0 _ rfl
  have g1 := hf 1 _ rfl
  obtain ⟨y0, hy0⟩ : ∃ y0, xs[0]? = some y0 := ⟨xs[0]'(by rw [hxl]; decide), List.getElem?_eq_getElem _⟩
  obtain ⟨y1, hy1⟩ : ∃ y1, xs[1]? = some y1 := ⟨xs[1]'(by rw [hxl]; decide), List.getElem?_eq_getElem _⟩
  rw [hy0] at g0
  rw [hy1] at g1
  simp [Try.cellsPair, Try.cells3] at g0 g1
  obtain ⟨zs, k2, _, _, _, hzl, hz⟩ := DataW.trod_struct Try.underlying32 g0
  have i0 := hz 0 _ rfl
  have i1 := hz 1 _ rfl
  obtain ⟨z0, hz0⟩ : ∃ y0, zs[0]? = some y0 := ⟨zs[0]'(by rw [hzl]; decide), List.getElem?_eq_getElem _⟩
  obtain ⟨z1, hz1⟩ : ∃ y1, zs[1]? = some y1 := ⟨zs[1]'(by rw [hzl]; decide), List.getElem?_eq_getElem _⟩
  rw [hz0] at i0
  rw [hz1] at i1
  simp [Try.cells3] at i0 i1
  obtain ⟨a, e0, _, ha⟩ := DataW.trod_int Try.underlying3 i0
  obtain ⟨b, e1, _, hb⟩ := DataW.trod_int Try.underlying3 i1
  obtain ⟨c, e2, _, hc⟩ := DataW.trod_int Try.underlying3 g1
  simp only [List.cons.injEq, and_true] at e0 e1 e2
  exact ⟨(a, b, c), e0, e1, e2, bounds_i64 ha, bounds_i64 hb, bounds_i64 hc⟩
theorem open_item {H : Type} {enc : TypeId × Value → H} {W : World} {base : Nat} {v : Value} {d : DataW H} {p : List MemPlace} (ov : Value.okWide Try.prog W .any base 34 v)
    (h : DataW.Trod enc Try.prog W 0 (fun _ => true) true 34 v d p) : ∃ q : Item, v = itemV q ∧ FitsI q := by
  obtain ⟨cs, rfl, hsz⟩ := okWide_struct Try.underlying34 ov
  obtain ⟨c0, c1, c2, rfl⟩ := Joins.array3 (hsz.trans Try.cellsItem)
  obtain ⟨fuel, hf⟩ := h
  obtain ⟨q, rfl, rfl, rfl, hq⟩ := item_read (v0 := c0) (v1 := c1) (v2 := c2) hf
  exact ⟨q, rfl, hq⟩
theorem open_items {H : Type} {enc : TypeId × Value → H} {W : World} {base : Nat} {v : Value} {d : DataW H} {p : List MemPlace} (ov : Value.okWide Try.prog W .any base 22 v)
    (h : DataW.Trod enc Try.prog W 0 (fun _ => true) true 22 v d p) : ∃ L, eltsAt itemE W v L ∧ L.length ≤ maxLen ∧ (∀ q ∈ L, FitsI q) ∧ nilNone v ∧ (∀ a n c, v = .slice a n c → n ≤ c) := by
  obtain ⟨a0, len, cap, rfl⟩ := okWide_slice Try.underlying22 ov
  obtain ⟨fuel, hf⟩ := h
  rcases Deep.open_slice Try.underlying22 hf with ⟨hcs, _⟩ | ⟨a, len', cap', m, n, D, Pl, hcs, _, hl, hm, hmm, _, hall⟩
  · have e : Value.slice a0 len cap = .slice none 0 0 := by simpa [Value.cells] using hcs
    cases e
    exact ⟨[], eltsAt.nil W, by simp, fun z hz => by simp at hz, fun n c e => by cases e; rfl, fun a n c e => by cases e; exact Nat.le_refl _⟩
  · have e : Value.slice a0 len cap = .slice (some a) len' cap' := by simpa [Value.cells] using hcs
    cases e
    have hm' : m = cap := by simpa using hmm
    subst hm'
    have each : ∀ i, i < len → ∃ q : Item, (∀ j u, (itemE.enc q)[j]? = some u → W.cell? (a.add (i * 3 + j)) = some u) ∧ FitsI q := by
      intro i hi
      obtain ⟨cs', h1, h2⟩ := hall i (by omega)
      rw [Try.cellsItem] at h1
      obtain ⟨_, hlen, hcell⟩ := World.cells?_some h1
      match cs', hlen with
      | [v0, v1, v2], _ =>
        obtain ⟨q, rfl, rfl, rfl, hq⟩ := item_read h2
        refine ⟨q, fun j u hu => ?_, hq⟩
        have hj : j < 3 := by have := (List.getElem?_eq_some_iff.1 hu).1; rwa [itemE.len] at this
        have := hcell j hj
        rw [Deep.add_add] at this
        rw [this]
        exact hu
    obtain ⟨q, hq⟩ := Deep.choose_lt each
    have hlen : ((List.range len).map q).length = len := by simp
    refine ⟨(List.range len).map q, ⟨some a, m, by rw [hlen], fun j hj => ⟨a, rfl, ?_⟩⟩, by rw [hlen]; omega, ?_, fun n c e => (by cases e), fun a n c e => (by cases e; exact hl)⟩
    · have hj' : j < len := by simpa using hj
      obtain ⟨c0, _⟩ := hq j hj'
      have hg : ((List.range len).map q)[j] = q j := by simp
      rw [hg]
      exact ⟨block_of_cell (c0 0 _ rfl), c0⟩
    · intro p hp
      obtain ⟨i, hi, rfl⟩ := List.mem_map.1 hp
      exact (hq i (by simpa using hi)).2
end Go.Proofs.Ytdnokkmnpgdplaa
