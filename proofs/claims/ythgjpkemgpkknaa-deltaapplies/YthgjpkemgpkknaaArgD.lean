/- Deeds and changes as arguments. -/
import Derived.Test.YthgjpkemgpkknaaRAdd
import Derived.Lib.SmallJoins
namespace Go.Proofs.Ythgjpkemgpkknaa
open Go.ChangeShapes Go.WideShapes Go.RowKit

def chgE : Elt Chg where
  ty := 36
  sl := 45
  n := 3
  bytes := 24
  zero := .agg #[.int .i64 0, .int .i64 0, .int .i64 0]
  enc := fun x => [.int .i64 x.1.1, .int .i64 x.1.2, .int .i64 x.2]
  under := Try.underlying45
  info := by kernel_rfl
  pos := by decide
  small := by decide
  zlen := by kernel_rfl
  len := fun _ => rfl
  one := fun x u hu => by
    simp only [List.mem_cons, List.not_mem_nil, or_false] at hu
    rcases hu with rfl | rfl | rfl <;> rfl
/-- A change, so many times. -/
abbrev DeedI := Chg × Int
def deedE : Elt DeedI where
  ty := 38
  sl := 22
  n := 4
  bytes := 32
  zero := .agg #[.int .i64 0, .int .i64 0, .int .i64 0, .int .i64 0]
  enc := fun x => [.int .i64 x.1.1.1, .int .i64 x.1.1.2, .int .i64 x.1.2, .int .i64 x.2]
  under := Try.underlying22
  info := by kernel_rfl
  pos := by decide
  small := by decide
  zlen := by kernel_rfl
  len := fun _ => rfl
  one := fun x u hu => by
    simp only [List.mem_cons, List.not_mem_nil, or_false] at hu
    rcases hu with rfl | rfl | rfl | rfl <;> rfl
def FitsCh (x : Chg) : Prop := FitsPr x.1 ∧ FitsZ x.2
def FitsDd (x : DeedI) : Prop := FitsCh x.1 ∧ FitsZ x.2
theorem cell_add (ad : Addr) (n j : Nat) (hj : 0 < j) : ad.add (n + j) = ⟨(ad.add n).block, (ad.add n).off + j, none⟩ := by
  unfold Addr.add
  by_cases h : n = 0
  · subst h; simp; omega
  · have : ¬ n + j = 0 := by omega
    simp [h, Nat.add_assoc]
theorem chgs_at {w wr : World} {L : List Chg} {ad : Addr} {n cap : Nat} (h : eltsAt chgE w (.slice (some ad) n cap) L) (hb : Below w.heap.size w wr) {k : Nat} (hk : k < L.length) :
    wr.cell? (ad.add (k * 3)) = some (.int .i64 L[k].1.1) ∧ wr.cell? ⟨(ad.add (k * 3)).block, (ad.add (k * 3)).off + 1, none⟩ = some (.int .i64 L[k].1.2) ∧ wr.cell? ⟨(ad.add (k * 3)).block, (ad.add (k * 3)).off + 2, none⟩ = some (.int .i64 L[k].2) := by
  have := elts_at h hb hk
  refine ⟨this 0 _ rfl, ?_, ?_⟩
  · rw [← cell_add ad (k * 3) 1 (by omega)]; exact this 1 _ rfl
  · rw [← cell_add ad (k * 3) 2 (by omega)]; exact this 2 _ rfl
theorem deeds_at {w wr : World} {L : List DeedI} {ad : Addr} {n cap : Nat} (h : eltsAt deedE w (.slice (some ad) n cap) L) (hb : Below w.heap.size w wr) {k : Nat} (hk : k < L.length) :
    wr.cell? (ad.add (k * 4)) = some (.int .i64 L[k].1.1.1) ∧ wr.cell? ⟨(ad.add (k * 4)).block, (ad.add (k * 4)).off + 1, none⟩ = some (.int .i64 L[k].1.1.2) ∧ wr.cell? ⟨(ad.add (k * 4)).block, (ad.add (k * 4)).off + 2, none⟩ = some (.int .i64 L[k].1.2) ∧ wr.cell? ⟨(ad.add (k * 4)).block, (ad.add (k * 4)).off + 3, none⟩ = some (.int .i64 L[k].2) := by
  have := elts_at h hb hk
  refine ⟨this 0 _ rfl, ?_, ?_, ?_⟩
  · rw [← cell_add ad (k * 4) 1 (by omega)]; exact this 1 _ rfl
  · rw [← cell_add ad (k * 4) 2 (by omega)]; exact this 2 _ rfl
  · rw [← cell_add ad (k * 4) 3 (by omega)]; exact this 3 _ rfl
theorem Try.cellsChg : Try.prog.cellsOf 36 = 3 := by kernel_rfl
theorem Try.cellsDeed : Try.prog.cellsOf 38 = 4 := by kernel_rfl
theorem chg_read {H : Type} {enc : TypeId × Value → H} {W : World} {base fuel : Nat} {spare : Nat → Bool} {held : Bool} {v0 v1 v2 : Value} {x : DataW H × List MemPlace} (h : DataW.trod enc Try.prog W base spare held fuel 36 [v0, v1, v2] = some x) :
    ∃ q : Chg, v0 = .int .i64 q.1.1 ∧ v1 = .int .i64 q.1.2 ∧ v2 = .int .i64 q.2 ∧ FitsCh q := by
  obtain ⟨xs, k, hk, hxy, _, hxl, hf⟩ := DataW.trod_struct Try.underlying36 h
  have g0 := hf 0 _ rfl
  have g1 := hf 1 _ rfl
  obtain ⟨y0, hy0⟩ : ∃ y0, xs[0]? = some y0 := ⟨xs[0]'(by rw [hxl]; decide), List.getElem?_eq_getElem _⟩
  obtain ⟨y1, hy1⟩ : ∃ y1, xs[1]? = some y1 := ⟨xs[1]'(by rw [hxl]; decide), List.getElem?_eq_getElem _⟩
  rw [hy0] at g0
  rw [hy1] at g1
  simp [Try.cells32, Try.cells3] at g0 g1
  obtain ⟨zs, k2, _, _, _, hzl, hz⟩ := DataW.trod_struct Try.underlying24 g0
  have i0 := hz 0 _ rfl
  have i1 := hz 1 _ rfl
  obtain ⟨z0, hz0⟩ : ∃ y0, zs[0]? = some y0 := ⟨zs[0]'(by rw [hzl]; decide), List.getElem?_eq_getElem _⟩
  obtain ⟨z1, hz1⟩ : ∃ y1, zs[1]? = some y1 := ⟨zs[1]'(by rw [hzl]; decide), List.getElem?_eq_getElem _⟩
  rw [hz0] at i0
  rw [hz1] at i1
  simp [Try.cells3] at i0 i1
  obtain ⟨a, e0, _, ha⟩ := DataW.trod_int Try.underlying3 i0
  obtain ⟨b, e1, _, hb⟩ := DataW.trod_int Try.underlying3 i1
  obtain ⟨c, e2, _, hc⟩ := DataW.trod_int Try.underlying3 g1
  simp only [List.cons.injEq, and_true] at e0 e1 e2
  exact ⟨((a, b), c), e0, e1, e2, ⟨bounds_i64 ha, bounds_i64 hb⟩, bounds_i64 hc⟩
theorem deed_read {H : Type} {enc : TypeId × Value → H} {W : World} {base fuel : Nat} {spare : Nat → Bool} {held : Bool} {v0 v1 v2 v3 : Value} {x : DataW H × List MemPlace} (h : DataW.trod enc Try.prog W base spare held fuel 38 [v0, v1, v2, v3] = some x) :
    ∃ q : DeedI, v0 = .int .i64 q.1.1.1 ∧ v1 = .int .i64 q.1.1.2 ∧ v2 = .int .i64 q.1.2 ∧ v3 = .int .i64 q.2 ∧ FitsDd q := by
  obtain ⟨xs, k, hk, hxy, _, hxl, hf⟩ := DataW.trod_struct Try.underlying38 h
  have g0 := hf 0 _ rfl
  have g1 := hf 1 _ rfl
  obtain ⟨y0, hy0⟩ : ∃ y0, xs[0]? = some y0 := ⟨xs[0]'(by rw [hxl]; decide), List.getElem?_eq_getElem _⟩
  obtain ⟨y1, hy1⟩ : ∃ y1, xs[1]? = some y1 := ⟨xs[1]'(by rw [hxl]; decide), List.getElem?_eq_getElem _⟩
  rw [hy0] at g0
  rw [hy1] at g1
  simp [Try.cellsChg, Try.cells3] at g0 g1
  obtain ⟨q, e0, e1, e2, hq⟩ := chg_read g0
  obtain ⟨c, e3, _, hc⟩ := DataW.trod_int Try.underlying3 g1
  simp only [List.cons.injEq, and_true] at e3
  exact ⟨(q, c), e0, e1, e2, e3, hq, bounds_i64 hc⟩
theorem open_chgs {H : Type} {enc : TypeId × Value → H} {W : World} {base : Nat} {v : Value} {d : DataW H} {p : List MemPlace} (ov : Value.okWide Try.prog W .any base 45 v)
    (h : DataW.Trod enc Try.prog W 0 (fun _ => true) true 45 v d p) : ∃ L, eltsAt chgE W v L ∧ L.length ≤ maxLen ∧ (∀ q ∈ L, FitsCh q) ∧ nilNone v ∧ (∀ a n c, v = .slice a n c → n ≤ c) := by
  obtain ⟨a0, len, cap, rfl⟩ := okWide_slice Try.underlying45 ov
  obtain ⟨fuel, hf⟩ := h
  rcases Deep.open_slice Try.underlying45 hf with ⟨hcs, _⟩ | ⟨a, len', cap', m, n, D, Pl, hcs, _, hl, hm, hmm, _, hall⟩
  · have e : Value.slice a0 len cap = .slice none 0 0 := by simpa [Value.cells] using hcs
    cases e
    exact ⟨[], eltsAt.nil W, by simp, fun z hz => by simp at hz, fun n c e => by cases e; rfl, fun a n c e => by cases e; exact Nat.le_refl _⟩
  · have e : Value.slice a0 len cap = .slice (some a) len' cap' := by simpa [Value.cells] using hcs
    cases e
    have hm' : m = cap := by simpa using hmm
    subst hm'
    have each : ∀ i, i < len → ∃ q : Chg, (∀ j u, (chgE.enc q)[j]? = some u → W.cell? (a.add (i * 3 + j)) = some u) ∧ FitsCh q := by
      intro i hi
      obtain ⟨cs', h1, h2⟩ := hall i (by omega)
      rw [Try.cellsChg] at h1
      obtain ⟨_, hlen, hcell⟩ := World.cells?_some h1
      match cs', hlen with
      | [v0, v1, v2], _ =>
        obtain ⟨q, rfl, rfl, rfl, hq⟩ := chg_read h2
        refine ⟨q, fun j u hu => ?_, hq⟩
        have hj : j < 3 := by have := (List.getElem?_eq_some_iff.1 hu).1; rwa [chgE.len] at this
        have := hcell j hj
        rw [Deep.add_add] at this
        rw [this]
        exact hu
    obtain ⟨q, hq⟩ := Deep.choose_lt each
    have hlen : ((List.range len).map q).length = len := by simp
    refine ⟨(List.range len).map q, ⟨some a, m, by rw [hlen], fun j hj => ⟨a, rfl, ?_⟩⟩, by rw [hlen]; omega, ?_, fun n c e => (by cases e), fun a n c e => (by cases e; exact hl)⟩
    · have hj' : j < len := by simpa using hj
      obtain ⟨c0, _⟩ := hq j hj'
      have hg : ((List.range len).map q)[j] = q j := by simp
      rw [hg]
      exact ⟨block_of_cell (c0 0 _ rfl), c0⟩
    · intro p hp
      obtain ⟨i, hi, rfl⟩ := List.mem_map.1 hp
      exact (hq i (by simpa using hi)).2
theorem open_deeds {H : Type} {enc : TypeId × Value → H} {W : World} {base : Nat} {v : Value} {d : DataW H} {p : List MemPlace} (ov : Value.okWide Try.prog W .any base 22 v)
    (h : DataW.Trod enc Try.prog W 0 (fun _ => true) true 22 v d p) : ∃ L, eltsAt deedE W v L ∧ L.length ≤ maxLen ∧ (∀ q ∈ L, FitsDd q) ∧ nilNone v ∧ (∀ a n c, v = .slice a n c → n ≤ c) := by
  obtain ⟨a0, len, cap, rfl⟩ := okWide_slice Try.underlying22 ov
  obtain ⟨fuel, hf⟩ := h
  rcases Deep.open_slice Try.underlying22 hf with ⟨hcs, _⟩ | ⟨a, len', cap', m, n, D, Pl, hcs, _, hl, hm, hmm, _, hall⟩
  · have e : Value.slice a0 len cap = .slice none 0 0 := by simpa [Value.cells] using hcs
    cases e
    exact ⟨[], eltsAt.nil W, by simp, fun z hz => by simp at hz, fun n c e => by cases e; rfl, fun a n c e => by cases e; exact Nat.le_refl _⟩
  · have e : Value.slice a0 len cap = .slice (some a) len' cap' := by simpa [Value.cells] using hcs
    cases e
    have hm' : m = cap := by simpa using hmm
    subst hm'
    have each : ∀ i, i < len → ∃ q : DeedI, (∀ j u, (deedE.enc q)[j]? = some u → W.cell? (a.add (i * 4 + j)) = some u) ∧ FitsDd q := by
      intro i hi
      obtain ⟨cs', h1, h2⟩ := hall i (by omega)
      rw [Try.cellsDeed] at h1
      obtain ⟨_, hlen, hcell⟩ := World.cells?_some h1
      match cs', hlen with
      | [v0, v1, v2, v3], _ =>
        obtain ⟨q, rfl, rfl, rfl, rfl, hq⟩ := deed_read h2
        refine ⟨q, fun j u hu => ?_, hq⟩
        have hj : j < 4 := by have := (List.getElem?_eq_some_iff.1 hu).1; rwa [deedE.len] at this
        have := hcell j hj
        rw [Deep.add_add] at this
        rw [this]
        exact hu
    obtain ⟨q, hq⟩ := Deep.choose_lt each
    have hlen : ((List.range len).map q).length = len := by simp
    refine ⟨(List.range len).map q, ⟨some a, m, by rw [hlen], fun j hj => ⟨a, rfl, ?_⟩⟩, by rw [hlen]; omega, ?_, fun n c e => (by cases e), fun a n c e => (by cases e; exact hl)⟩
    · have hj' : j < len := by simpa using hj
      obtain ⟨c0, _⟩ := hq j hj'
      have hg : ((List.range len).map q)[j] = q j := by simp
      rw [hg]
      exact ⟨block_of_cell (c0 0 _ rfl), c0⟩
    · intro p hp
      obtain ⟨i, hi, rfl⟩ := List.mem_map.1 hp
      exact (hq i (by simpa using hi)).2
end Go.Proofs.Ythgjpkemgpkknaa
