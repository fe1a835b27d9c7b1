/- The document's heap: a list. -/
import Derived.Test.YtnonkhnajloloaaHeapE
namespace Go.Proofs.Ytnonkhnajloloaa
open Go.RowKit Go.Shelf
open Go.Sort (grow grow_empty grow_grow alloc_eq_grow heap_grow_old)

set_option maxRecDepth 100000 in
/-- 'x[:k]' of a row of items. -/
theorem its_head (a : Option Addr) (len cap k : Nat) (K : Int) (hK : K = (k : Int)) (hk : k ≤ cap) (hn : nilNone (.slice a len cap)) : ∃ v, (∀ w, (Instr.slice 22 (.slice a len cap) none (some (.int .i64 K)) none).run Try.prog w = .ok v w) ∧ nilNone v ∧
    ∀ w L, eltsAt itE w (.slice a len cap) L → k ≤ L.length → eltsAt itE w v (L.take k) := by
  subst hK
  refine ⟨sliced a 0 k cap 2, fun w => ?_, ?_, ?_⟩
  · rw [run_slice_h w 22 a len cap elemIt .i64 k (by omega) (by omega), sizeIt]
    simp
  · intro n c e
    unfold sliced at e
    cases a with
    | none => have := hn _ _ rfl; subst this; simp at e; omega
    | some a => simp at e; split at e <;> simp at e
  · rintro w L ⟨a', cap', e, hc⟩ hkL
    obtain ⟨rfl, rfl, rfl⟩ := Value.slice.inj e
    unfold sliced
    refine ⟨_, cap - 0, by rw [List.length_take, Nat.min_eq_left hkL]; rfl, fun j hj => ?_⟩
    rw [List.length_take] at hj
    obtain ⟨ad, rfl, hlt, hcj⟩ := hc j (by omega)
    refine ⟨ad, ?_, hlt, fun i u hu => hcj i u ?_⟩
    · split <;> simp [add_zero_any]
    · rw [List.getElem_take] at hu; exact hu
set_option maxRecDepth 100000 in
/-- 'x[l:]' of a row of items. -/
theorem its_tail (a : Option Addr) (len cap l : Nat) (K : Int) (hK : K = (l : Int)) (hl : l ≤ len) (hc : len ≤ cap) (hn : nilNone (.slice a len cap)) : ∃ v, (∀ w, (Instr.slice 22 (.slice a len cap) (some (.int .i64 K)) none none).run Try.prog w = .ok v w) ∧ nilNone v ∧
    ∀ w L, eltsAt itE w (.slice a len cap) L → eltsAt itE w v (L.drop l) := by
  subst hK
  refine ⟨sliced a l len cap 2, fun w => ?_, ?_, ?_⟩
  · rw [run_slice_l w 22 a len cap elemIt .i64 l (by omega) (by omega), sizeIt]
    simp
  · intro n c e
    unfold sliced at e
    cases a with
    | none => have := hn _ _ rfl; subst this; simp at e; omega
    | some a => simp at e; split at e <;> simp at e
  · rintro w L ⟨a', cap', e, hcL⟩
    obtain ⟨rfl, rfl, rfl⟩ := Value.slice.inj e
    unfold sliced
    refine ⟨_, cap - l, by rw [List.length_drop], fun j hj => ?_⟩
    rw [List.length_drop] at hj
    obtain ⟨ad, rfl, hlt, hcj⟩ := hcL (l + j) (by omega)
    refine ⟨ad.add (l * 2), ?_, by rw [add_block]; exact hlt, fun i u hu => ?_⟩
    · rw [if_neg (by omega)]; simp
    · rw [List.getElem_drop] at hu
      have := hcj i u hu
      rw [show itE.n = 2 from rfl] at this ⊢
      rw [add_add_any, show l * 2 + (j * 2 + i) = (l + j) * 2 + i by omega]
      exact this
/-- Block K is the document's heap: its items, how many were pushed, and the most that there ever were. -/
structure Rh (w : World) (B K : Nat) (v : Value) (L : List It) (pu pk : Int) : Prop where
  box : w.heap[K]? = some (.cells #[v, .int .i64 pu, .int .i64 pk] 28 (0, 0))
  row : ownE itE w B v L
  few : L.length ≤ 100000
  base : B ≤ K
variable {w w' : World} {B K : Nat} {v : Value} {L : List It} {pu pk : Int}
set_option maxRecDepth 100000 in
theorem Rh.ltK (h : Rh w B K v L pu pk) : K < w.heap.size := (Array.getElem?_eq_some_iff.1 h.box).1
set_option maxRecDepth 100000 in
theorem Rh.kept (h : Rh w B K v L pu pk) (hk : ∀ k, k < w.heap.size → mine K v k → w'.heap[k]? = w.heap[k]?) : Rh w' B K v L pu pk :=
  ⟨(hk K h.ltK (.inl rfl)).trans h.box, h.row.kept fun g hg => hk g (h.row.lt g hg).2 (.inr hg.symm), h.few, h.base⟩
set_option maxRecDepth 100000 in
theorem Rh.below (h : Rh w B K v L pu pk) (hb : Below w.heap.size w w') : Rh w' B K v L pu pk := h.kept fun k hk _ => hb.block k hk
set_option maxRecDepth 100000 in
theorem Rh.drew (h : Rh w B K v L pu pk) : Rh w.drew B K v L pu pk := ⟨h.box, h.row, h.few, h.base⟩
set_option maxRecDepth 100000 in
theorem Rh.mono {B' : Nat} (h : Rh w B K v L pu pk) (hB : B' ≤ B) : Rh w B' K v L pu pk := ⟨h.box, h.row.mono hB, h.few, Nat.le_trans hB h.base⟩
set_option maxRecDepth 100000 in
theorem Rh.cells (h : Rh w B K v L pu pk) : w.cell? ⟨K, 0, none⟩ = some v ∧ w.cell? ⟨K, 1, none⟩ = some (.int .i64 pu) ∧ w.cell? ⟨K, 2, none⟩ = some (.int .i64 pk) := by
  refine ⟨?_, ?_, ?_⟩ <;> · rw [cell_of_row w K _ _ 28 (0, 0) h.box]; rfl
set_option maxRecDepth 100000 in
theorem Rh.frozen (h : Rh w B K v L pu pk) (i : Nat) : w.frozen? ⟨K, i, none⟩ = false := Lib.frozen_of_heap h.box _
set_option maxRecDepth 100000 in
theorem Rh.apart (h : Rh w B K v L pu pk) : v.ownBlock ≠ some K := by
  intro e
  obtain ⟨cs, h1⟩ := h.row.block K e
  have h2 := h.box
  rw [h1] at h2
  have := congrArg (fun o => match o with | some (Obj.cells _ t _) => t | _ => 0) h2
  simp [itE] at this
set_option maxRecDepth 100000 in
theorem Rh.place (h : Rh w B K v L pu pk) (h0 : 0 < L.length) : ∃ g cap, v = .slice (some ⟨g, 0, none⟩) L.length cap ∧ L.length ≤ cap ∧ B ≤ g ∧ g < w.heap.size ∧ g ≠ K := by
  obtain ⟨a, cap, rfl, hc⟩ := h.row.form
  obtain ⟨g, rfl, hg⟩ := ownE_some h.row h0
  exact ⟨g, cap, rfl, hc, hg, (h.row.lt g rfl).2, fun e => h.apart (by rw [e]; rfl)⟩
set_option maxRecDepth 100000 in
theorem Rh.at {g n cap : Nat} (h : Rh w B K (.slice (some ⟨g, 0, none⟩) n cap) L pu pk) {j : Nat} (hj : j < L.length) :
    w.cell? ⟨g, j * 2, none⟩ = some (.int .i64 L[j].1) ∧ w.cell? ⟨g, j * 2 + 1, none⟩ = some (.int .i64 L[j].2) :=
  ⟨(h.row.cells (i := 0) hj (by decide)).1, (h.row.cells (i := 1) hj (by decide)).1⟩
set_option maxRecDepth 100000 in
theorem Rh.apps {w3 : World} {r : Value} {C : List It} (h : Rh w B K v L pu pk) (ho : ownE itE w3 B r C) (hg : w.grownBy w3 v.ownBlock) (hr : ∀ k, r.ownBlock = some k → k ≠ K) (hf : C.length ≤ 100000) :
    Rh (w3.setCell ⟨K, 0, none⟩ r) B K r C pu pk :=
  ⟨(heap_setCell_at ((hg.block K h.ltK (fun e => h.apart e.symm)).trans h.box) r).trans rfl, ho.kept fun g hgr => Below.heap_setCell _ ⟨K, 0, none⟩ _ g (hr g hgr), hf, h.base⟩
set_option maxRecDepth 100000 in
theorem Rh.setPu (h : Rh w B K v L pu pk) (z : Int) : Rh (w.setCell ⟨K, 1, none⟩ (.int .i64 z)) B K v L z pk :=
  ⟨(heap_setCell_at h.box _).trans rfl, h.row.kept fun g hg => Below.heap_setCell _ ⟨K, 1, none⟩ _ g (fun e => h.apart (by rw [hg]; exact congrArg _ e)), h.few, h.base⟩
set_option maxRecDepth 100000 in
theorem Rh.setPk (h : Rh w B K v L pu pk) (z : Int) : Rh (w.setCell ⟨K, 2, none⟩ (.int .i64 z)) B K v L pu z :=
  ⟨(heap_setCell_at h.box _).trans rfl, h.row.kept fun g hg => Below.heap_setCell _ ⟨K, 2, none⟩ _ g (fun e => h.apart (by rw [hg]; exact congrArg _ e)), h.few, h.base⟩
/-! Most. -/
def mostL : List It → Int
  | [] => 0
  | x :: t => t.foldl (fun m y => max m y.1) x.1
set_option maxRecDepth 100000 in
theorem mostL_snoc {L : List It} (h : L ≠ []) (x : It) : mostL (L ++ [x]) = max (mostL L) x.1 := by
  cases L with
  | nil => exact absurd rfl h
  | cons a t => simp [mostL, List.foldl_append]
set_option maxRecDepth 100000 in
theorem mostL_take {L : List It} {k : Nat} (h1 : 1 ≤ k) (hk : k < L.length) : mostL (L.take (k + 1)) = max (mostL (L.take k)) L[k].1 := by
  rw [List.take_succ_eq_append_getElem hk, mostL_snoc (by intro e; have := congrArg List.length e; rw [List.length_take, List.length_nil] at this; omega)]
set_option maxRecDepth 100000 in
theorem mostL_one {L : List It} (h : 0 < L.length) : mostL (L.take 1) = L[0].1 := by
  cases L with
  | nil => simp at h
  | cons a t => simp [mostL]
set_option maxRecDepth 100000 in
theorem foldl_max_ge : ∀ (t : List It) (m : Int), m ≤ t.foldl (fun m y => max m y.1) m
  | [], m => by simp
  | a :: t, m => by
    rw [List.foldl_cons]
    have := foldl_max_ge t (max m a.1)
    omega
set_option maxRecDepth 100000 in
theorem foldl_max_all : ∀ (t : List It) (m : Int) (x : It), x ∈ t → x.1 ≤ t.foldl (fun m y => max m y.1) m
  | a :: t, m, x, h => by
    rw [List.foldl_cons]
    rcases List.mem_cons.1 h with rfl | h
    · have := foldl_max_ge t (max m x.1)
      omega
    · exact foldl_max_all t _ x h
set_option maxRecDepth 100000 in
theorem foldl_max_in : ∀ (t : List It) (m : Int), t.foldl (fun m y => max m y.1) m = m ∨ ∃ x ∈ t, x.1 = t.foldl (fun m y => max m y.1) m
  | [], m => .inl rfl
  | a :: t, m => by
    rw [List.foldl_cons]
    rcases foldl_max_in t (max m a.1) with h | ⟨x, hx, h⟩
    · rw [h]
      by_cases e : a.1 ≤ m
      · exact .inl (by omega)
      · exact .inr ⟨a, by simp, by omega⟩
    · exact .inr ⟨x, by simp [hx], h⟩
set_option maxRecDepth 100000 in
theorem mostL_all {L : List It} {x : It} (h : x ∈ L) : x.1 ≤ mostL L := by
  cases L with
  | nil => simp at h
  | cons a t =>
    rcases List.mem_cons.1 h with rfl | h
    · exact foldl_max_ge t _
    · exact foldl_max_all t _ x h
set_option maxRecDepth 100000 in
theorem mostL_in {L : List It} (h : L ≠ []) : ∃ x ∈ L, x.1 = mostL L := by
  cases L with
  | nil => exact absurd rfl h
  | cons a t =>
    rcases foldl_max_in t a.1 with e | ⟨x, hx, e⟩
    · exact ⟨a, by simp, e.symm⟩
    · exact ⟨x, by simp [hx], e⟩
def someL : List It → Bool
  | [] => false
  | _ :: _ => true
def MostRel (L : List It) (w : World) (m i : Value) (wr : World) : Prop := ∃ k : Nat, i = .int .i64 (k : Int) ∧ m = .int .i64 (mostL (L.take k)) ∧ 1 ≤ k ∧ k ≤ L.length ∧ wr = w
set_option maxRecDepth 100000 in
set_option maxHeartbeats 1000000 in
theorem most_any (h : Rh w B K v L pu pk) : Calls Try.prog 9 #[.pointer (some ⟨K, 0, none⟩)] w fun e w' => e = .returned (.tuple #[.int .i64 (mostL L), .bool (someL L)]) ∧ w' = w := by
  obtain ⟨c0, _, _⟩ := h.cells
  by_cases h0 : L.length = 0
  · obtain rfl := List.eq_nil_of_length_eq_zero h0
    obtain ⟨a, cap, rfl, _⟩ := h.row.form
    clear h
    go_enter Try.func9, Try.ntmps9
    go_wp2
    go_ret2
    exact ⟨rfl, rfl⟩
  · obtain ⟨g, cap, rfl, hc, hB, hgw, hgK⟩ := h.place (by omega)
    have HH := Lib.hid h
    have HL0 : Hid (0 < L.length) := Lib.hid (by omega)
    have HS : Hid (someL L = true) := Lib.hid (by cases L with | nil => simp at h0 | cons _ _ => rfl)
    obtain ⟨a0, _⟩ := h.at (j := 0) (by omega)
    rw [Nat.zero_mul, ← mostL_one HL0.out] at a0
    obtain ⟨n, hn⟩ : ∃ n, L.length = n := ⟨_, rfl⟩
    rw [hn] at c0
    have hn0 : ((n : Int) == 0) = false := by simp; omega
    have hn1 : (0 : Int) < (n : Int) := by omega
    have hn2 : n ≤ 100000 := by rw [← hn]; exact h.few
    have HN := Lib.hid hn
    clear h hn
    go_enter Try.func9, Try.ntmps9
    go_wp2
    go_loopw [4, 5] (fun m i wr => MostRel L w m i wr) (fun _ i _ => n - (intOf i).toNat)
    case atStart => exact ⟨1, rfl, rfl, Nat.le_refl _, HL0.out, rfl⟩
    case round =>
      obtain ⟨k, rfl, rfl, h1, hk, rfl⟩ := hrel
      rw [HN.out] at hk
      have HH1 := Lib.hid h1
      by_cases hgo : k < n
      · obtain ⟨b0, _⟩ := HH.out.at (j := k) (by rw [HN.out]; exact hgo)
        have HT : Hid (mostL (L.take (k + 1)) = max (mostL (L.take k)) (L[k]'(by rw [HN.out]; exact hgo)).1) := Lib.hid (mostL_take HH1.out (by rw [HN.out]; exact hgo))
        generalize (L[k]'(by rw [HN.out]; exact hgo)).1 = y at b0 HT
        obtain ⟨m, hm⟩ : ∃ m, mostL (L.take k) = m := ⟨_, rfl⟩
        rw [hm] at HT ⊢
        clear hm
        have i0 : (0 : Int) ≤ (k : Int) := by omega
        have i1 : (k : Int) < (n : Int) := by omega
        by_cases hy : y > m
        · go_wp2
          go_roundw
          case rel => exact ⟨k + 1, by simp, by rw [HT.out, show max m y = y by omega], by omega, by rw [HN.out]; omega, rfl⟩
          case measure => simp [intOf]; omega
        · go_wp2
          go_roundw
          case rel => exact ⟨k + 1, by simp, by rw [HT.out, show max m y = m by omega], by omega, by rw [HN.out]; omega, rfl⟩
          case measure => simp [intOf]; omega
      · obtain rfl : k = n := by omega
        have hi : ¬ (k : Int) < (k : Int) := by omega
        have HT : Hid (mostL (L.take k) = mostL L) := Lib.hid (by rw [List.take_of_length_le (by rw [HN.out]; exact Nat.le_refl _)])
        rw [HT.out]
        go_wp2
        go_ret2
        rw [HS.out]
        exact ⟨rfl, rfl⟩
end Go.Proofs.Ytnonkhnajloloaa
