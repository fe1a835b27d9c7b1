/- The law's deeds as arguments. -/
import Derived.Test.YtbnekkcjkdghcaaLaP
import Derived.Lib.SmallJoins
namespace Go.Proofs.Ytbnekkcjkdghcaa
open Go.ChangeShapes Go.WideShapes Go.RowKit Go.Maps

/-- Kind, pair, number. -/
abbrev DeedL := Int × (Int × Int) × Int
def ldeedE : Elt DeedL where
  ty := 43
  sl := 22
  n := 4
  bytes := 32
  zero := .agg #[.int .i64 0, .int .i64 0, .int .i64 0, .int .i64 0]
  enc := fun x => [.int .i64 x.1, .int .i64 x.2.1.1, .int .i64 x.2.1.2, .int .i64 x.2.2]
  under := Try.underlying22
  info := by kernel_rfl
  pos := by decide
  small := by decide
  zlen := by kernel_rfl
  len := fun _ => rfl
  one := fun x u hu => by
    simp only [List.mem_cons, List.not_mem_nil, or_false] at hu
    rcases hu with rfl | rfl | rfl | rfl <;> rfl
def FitsDl (x : DeedL) : Prop := FitsZ x.1 ∧ FitsPr x.2.1 ∧ FitsZ x.2.2
set_option maxRecDepth 100000 in
theorem lcell_add (ad : Addr) (n j : Nat) (hj : 0 < j) : ad.add (n + j) = ⟨(ad.add n).block, (ad.add n).off + j, none⟩ := by
  unfold Addr.add
  by_cases h : n = 0
  · subst h; simp; omega
  · have : ¬ n + j = 0 := by omega
    simp [h, Nat.add_assoc]
set_option maxRecDepth 100000 in
theorem ldeeds_at {w wr : World} {L : List DeedL} {ad : Addr} {n cap : Nat} (h : eltsAt ldeedE w (.slice (some ad) n cap) L) (hb : Below w.heap.size w wr) {k : Nat} (hk : k < L.length) :
    wr.cell? (ad.add (k * 4)) = some (.int .i64 L[k].1) ∧ wr.cell? ⟨(ad.add (k * 4)).block, (ad.add (k * 4)).off + 1, none⟩ = some (.int .i64 L[k].2.1.1) ∧ wr.cell? ⟨(ad.add (k * 4)).block, (ad.add (k * 4)).off + 2, none⟩ = some (.int .i64 L[k].2.1.2) ∧ wr.cell? ⟨(ad.add (k * 4)).block, (ad.add (k * 4)).off + 3, none⟩ = some (.int .i64 L[k].2.2) := by
  have := elts_at h hb hk
  refine ⟨this 0 _ rfl, ?_, ?_, ?_⟩
  · rw [← lcell_add ad (k * 4) 1 (by omega)]; exact this 1 _ rfl
  · rw [← lcell_add ad (k * 4) 2 (by omega)]; exact this 2 _ rfl
  · rw [← lcell_add ad (k * 4) 3 (by omega)]; exact this 3 _ rfl
set_option maxRecDepth 100000 in
theorem Try.cellsDeedL : Try.prog.cellsOf 43 = 4 := by kernel_rfl
set_option maxRecDepth 100000 in
theorem pair_read {H : Type} {enc : TypeId × Value → H} {W : World} {base fuel : Nat} {spare : Nat → Bool} {held : Bool} {v0 v1 : Value} {x : DataW H × List MemPlace} (h : DataW.trod enc Try.prog W base spare held fuel 41 [v0, v1] = some x) :
    ∃ q : Int × Int, v0 = .int .i64 q.1 ∧ v1 = .int .i64 q.2 ∧ FitsPr q := by
  obtain ⟨xs, k, hk, hxy, _, hxl, hf⟩ := DataW.trod_struct Try.underlying41 h
  have g0 := hf 0 _ rfl
  have g1 := hf 1 _ rfl
  obtain ⟨y0, hy0⟩ : ∃ y0, xs[0]? = some y0 := ⟨xs[0]'(by rw [hxl]; decide), List.getElem?_eq_getElem _⟩
  obtain ⟨y1, hy1⟩ : ∃ y1, xs[1]? = some y1 := ⟨xs[1]'(by rw [hxl]; decide), List.getElem?_eq_getElem _⟩
  rw [hy0] at g0
  rw [hy1] at g1
  simp [Try.cells3] at g0 g1
  obtain ⟨a, e0, _, ha⟩ := DataW.trod_int Try.underlying3 g0
  obtain ⟨b, e1, _, hb⟩ := DataW.trod_int Try.underlying3 g1
  simp only [List.cons.injEq, and_true] at e0 e1
  exact ⟨(a, b), e0, e1, bounds_i64 ha, bounds_i64 hb⟩
set_option maxRecDepth 100000 in
theorem ldeed_read {H : Type} {enc : TypeId × Value → H} {W : World} {base fuel : Nat} {spare : Nat → Bool} {held : Bool} {v0 v1 v2 v3 : Value} {x : DataW H × List MemPlace} (h : DataW.trod enc Try.prog W base spare held fuel 43 [v0, v1, v2, v3] = some x) :
    ∃ q : DeedL, v0 = .int .i64 q.1 ∧ v1 = .int .i64 q.2.1.1 ∧ v2 = .int .i64 q.2.1.2 ∧ v3 = .int .i64 q.2.2 ∧ FitsDl q := by
  obtain ⟨xs, k, hk, hxy, _, hxl, hf⟩ := DataW.trod_struct Try.underlying43 h
  have g0 := hf 0 _ rfl
  have g1 := hf 1 _ rfl
  have g2 := hf 2 _ rfl
  obtain ⟨y0, hy0⟩ : ∃ y0, xs[0]? = some y0 := ⟨xs[0]'(by rw [hxl]; decide), List.getElem?_eq_getElem _⟩
  obtain ⟨y1, hy1⟩ : ∃ y1, xs[1]? = some y1 := ⟨xs[1]'(by rw [hxl]; decide), List.getElem?_eq_getElem _⟩
  obtain ⟨y2, hy2⟩ : ∃ y2, xs[2]? = some y2 := ⟨xs[2]'(by rw [hxl]; decide), List.getElem?_eq_getElem _⟩
  rw [hy0] at g0
  rw [hy1] at g1
  rw [hy2] at g2
  simp [Try.cells32, Try.cells3] at g0 g1 g2
  obtain ⟨c, e0, _, hc⟩ := DataW.trod_int Try.underlying3 g0
  obtain ⟨q, e1, e2, hq⟩ := pair_read g1
  obtain ⟨d, e3, _, hd⟩ := DataW.trod_int Try.underlying3 g2
  simp only [List.cons.injEq, and_true] at e0 e3
  exact ⟨(c, q, d), e0, e1, e2, e3, bounds_i64 hc, hq, bounds_i64 hd⟩
set_option maxRecDepth 100000 in
theorem open_ldeeds {H : Type} {enc : TypeId × Value → H} {W : World} {base : Nat} {v : Value} {d : DataW H} {p : List MemPlace} (ov : Value.okWide Try.prog W .any base 22 v)
    (h : DataW.Trod enc Try.prog W 0 (fun _ => true) true 22 v d p) : ∃ L, eltsAt ldeedE W v L ∧ L.length ≤ maxLen ∧ (∀ q ∈ L, FitsDl q) ∧ nilNone v ∧ (∀ a n c, v = .slice a n c → n ≤ c) := by
  obtain ⟨a0, len, cap, rfl⟩ := okWide_slice Try.underlying22 ov
  obtain ⟨fuel, hf⟩ := h
  rcases Deep.open_slice Try.underlying22 hf with ⟨hcs, _⟩ | ⟨a, len', cap', m, n, D, Pl, hcs, _, hl, hm, hmm, _, hall⟩
  · have e : Value.slice a0 len cap = .slice none 0 0 := by simpa [Value.cells] using hcs
    cases e
    exact ⟨[], eltsAt.nil W, by simp, fun z hz => by simp at hz, fun n c e => by cases e; rfl, fun a n c e => by cases e; exact Nat.le_refl _⟩
  · have e : Value.slice a0 len cap = .slice (some a) len' cap' := by simpa [Value.cells] using hcs
    cases e
    have hm' : m = cap := by simpa using hmm
    subst hm'
    have each : ∀ i, i < len → ∃ q : DeedL, (∀ j u, (ldeedE.enc q)[j]? = some u → W.cell? (a.add (i * 4 + j)) = some u) ∧ FitsDl q := by
      intro i hi
      obtain ⟨cs', h1, h2⟩ := hall i (by omega)
      rw [Try.cellsDeedL] at h1
      obtain ⟨_, hlen, hcell⟩ := World.cells?_some h1
      match cs', hlen with
      | [v0, v1, v2, v3], _ =>
        obtain ⟨q, rfl, rfl, rfl, rfl, hq⟩ := ldeed_read h2
        refine ⟨q, fun j u hu => ?_, hq⟩
        have hj : j < 4 := by have := (List.getElem?_eq_some_iff.1 hu).1; rwa [ldeedE.len] at this
        have := hcell j hj
        rw [Deep.add_add] at this
        rw [this]
        exact hu
    obtain ⟨q, hq⟩ := Deep.choose_lt each
    have hlen : ((List.range len).map q).length = len := by simp
    refine ⟨(List.range len).map q, ⟨some a, m, by rw [hlen], fun j hj => ⟨a, rfl, ?_⟩⟩, by rw [hlen]; omega, ?_, fun n c e => (by cases e), fun a n c e => (by cases e; exact hl)⟩
    · have hj' : j < len := by simpa using hj
      obtain ⟨c0, _⟩ := hq j hj'
      have hg : ((List.range len).map q)[j] = q j := by simp
      rw [hg]
      exact ⟨block_of_cell (c0 0 _ rfl), c0⟩
    · intro p hp
      obtain ⟨i, hi, rfl⟩ := List.mem_map.1 hp
      exact (hq i (by simpa using hi)).2
end Go.Proofs.Ytbnekkcjkdghcaa
