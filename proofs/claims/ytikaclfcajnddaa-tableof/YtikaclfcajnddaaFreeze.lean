/- Freeze of a counter. -/
import Derived.Test.YtikaclfcajnddaaAdd
import Derived.Test.YtikaclfcajnddaaSorted
namespace Go.Proofs.Ytikaclfcajnddaa
open Go.RowKit Go.Maps

theorem key_string {key : Value} {kl : Lit} (h : keyOf Try.prog 9 key = some kl) : ∃ x : ByteArray, key = .string x ∧ kl = .string (bs x) ∧ x.size ≤ 9223372036854775807 := by
  cases key <;> simp [keyOf, Try.underlying9, mapKey] at h
  obtain ⟨h1, rfl⟩ := h
  exact ⟨_, rfl, rfl, h1⟩
/-- A range's step over a map of words. -/
theorem wpList_next_words (w : World) {ops : Array Oper} {rest : List Oper} {o : Oper} {a : Act} {Q : Exit → Act → World → Prop} (hg : o.guard = none) (it : Operand) (hop : o.op = Op.next it false) (L : Bag) (b r : Nat) (left : Lit → Bool) (cnt : Nat)
    (hit : a.eval it = .pointer (some ⟨r, 0, none⟩)) (h : w.ranges Try.prog 9 (plainElem Try.prog 3) b r L.length (bagD L) left cnt)
    (hDone : cnt = 0 → (∀ kl, left kl = false) → wpList Try.prog ops Q rest (a.put o.dst (.tuple #[.bool false])) w)
    (hMore : ∀ (x : ByteArray) (c : Int) (w' : World) (cnt' : Nat), left (.string (bs x)) = true → (x, c) ∈ L → w'.ranges Try.prog 9 (plainElem Try.prog 3) b r L.length (bagD L) (fun z => left z && !z.sameKey (.string (bs x))) cnt' → cnt' < cnt →
      w.grownBy w' (some r) → w'.heap.size = w.heap.size → (Instr.entry (.pointer (some ⟨r, 0, none⟩))).run Try.prog w' = .ok (.tuple #[.string x, .int .i64 c]) w' → wpList Try.prog ops Q rest (a.put o.dst (.tuple #[.bool true, .string x, .int .i64 c])) w') :
    wpList Try.prog ops Q (o :: rest) a w :=
  wpList_next_ranges w hg it hop 9 law9 (plainElem Try.prog 3) Value.string (Value.int .i64) (fun key kl hkey => by obtain ⟨x, rfl, _⟩ := key_string hkey; exact ⟨x, rfl⟩) (fun v y hv => by obtain ⟨c, rfl, _⟩ := plainElem_int_inv Try.underlying3 hv; exact ⟨c, rfl⟩)
    b r L.length (bagD L) left cnt hit h hDone (fun x c kl y w' cnt' hkey hlk hv hat hrg hlt hgr hsz hen => by
      obtain ⟨x', ex, rfl, hwx⟩ := key_string hkey
      cases ex
      obtain ⟨c', ec, rfl, hwc⟩ := plainElem_int_inv Try.underlying3 hv
      cases ec
      exact hMore x c w' cnt' hlk (mem_of_atKey hat) hrg hlt hgr hsz hen)
def FrzRel (w : World) (m r : Nat) (L : Bag) (v : Value) (wr : World) : Prop :=
  ∃ (left : Lit → Bool) (cnt : Nat) (M : Bag), wr.ranges Try.prog 9 (plainElem Try.prog 3) m r L.length (bagD L) left cnt ∧ ownW wr w.heap.size v M ∧ M.Perm (toldOf L left) ∧ Below w.heap.size w wr
theorem told_len {L M : Bag} {left : Lit → Bool} (h : M.Perm (toldOf L left)) : M.length ≤ L.length := by
  rw [h.length_eq]; exact List.length_filter_le _ _
theorem ownW.ne_map {w : World} {b m : Nat} {v : Value} {L M : Bag} {n : Nat} (h : ownW w b v M) (hm : w.ownsMap Try.prog 9 (plainElem (H := Unit) Try.prog 3) m n (bagD L)) : some m ≠ v.ownBlock := by
  intro e
  obtain ⟨cs, hc⟩ := h.block m e.symm
  obtain ⟨es, clock, hb, _⟩ := hm
  rw [hc] at hb; cases hb
theorem frz_step {w wr w1 w2 : World} {m r cnt' : Nat} {L M : Bag} {v v' : Value} {left : Lit → Bool} {x : ByteArray} {c : Int} (hr : Rising L) (hb : Below w.heap.size w wr) (hM : M.Perm (toldOf L left)) (hl : left (.string (bs x)) = true) (hx : (x, c) ∈ L)
    (hrr : w.heap.size ≤ r) (hg : wr.grownBy w1 (some r)) (h1 : w1.ranges Try.prog 9 (plainElem (H := Unit) Try.prog 3) m r L.length (bagD L) (fun z => left z && !z.sameKey (.string (bs x))) cnt') (hv : ownW w1 w.heap.size v M)
    (h2 : ownW w2 w.heap.size v' (M ++ [(x, c)])) (hg2 : (w1.alloc (.cells #[.string x, .int .i64 c] 36)).grownBy w2 v.ownBlock) :
    FrzRel w m r L v' w2 ∧ w2.ranges Try.prog 9 (plainElem (H := Unit) Try.prog 3) m r L.length (bagD L) (fun z => left z && !z.sameKey (.string (bs x))) cnt' := by
  have hv' : ownW (w1.alloc (.cells #[.string x, .int .i64 c] 36)) w.heap.size v M := hv.kept fun g hg => Below.heap_alloc _ _ _ (hv.lt g hg).2
  have h3 := (h1.alloc (.cells #[.string x, .int .i64 c] 36)).kept hg2 (hv'.ne_map (h1.alloc _).owns) (row_ne_iter hv' (h1.alloc _))
  have hs := hb.size
  have hb1 : Below w.heap.size w w1 := hb.grown hg hs fun g e => by cases e; exact hrr
  refine ⟨⟨_, cnt', M ++ [(x, c)], h3, h2, ?_, (hb1.alloc (Nat.le_trans hs hg.size) _).grown hg2 (by rw [World.size_alloc]; have := hg.size; omega) fun g e => (hv.lt g e).1⟩, h3⟩
  refine (List.perm_append_comm).trans ?_
  exact (List.Perm.cons _ hM).trans (told_step hl hr hx).symm
set_option maxHeartbeats 2000000 in
theorem freeze_any (K : Nat) (b : Option Nat) (L : Bag) (w : World) (h : Cnt w K b L) (hl : L.length ≤ 1000000) :
    Calls Try.prog 27 #[.pointer (some ⟨K, 0, none⟩)] w fun e w' => ∃ v, e = .returned v ∧ ownW w' w.heap.size v L ∧ Below w.heap.size w w' := by
  have HN := Lib.hid h
  obtain ⟨c0, f0⟩ := h.cell
  have hlen := len_run h.2.2 3
  obtain ⟨i0, hi, hz0, hz1, hz2⟩ := info_parts Try.info36
  clear h
  obtain ⟨w1, hmk, hown1, hg1⟩ := run_make_own (P := Try.prog) w w.heap.size 22 36 i0 _ 2 Try.underlying22 hi hz0 hz1 .i64 .i64 L.length (by rw [hz2]; omega) (by unfold maxLen; omega) (Nat.le_refl _)
  have hb1 : Below w.heap.size w w1 := (Below.refl _ w).grown hg1 (Nat.le_refl _) (by simp)
  have c1 : w1.cell? ⟨K, 0, none⟩ = some (.map b) := by rw [← c0]; exact hb1.cell HN.out.lt
  have HB1 := Lib.hid hb1
  have HO1 : Hid (ownW w1 w.heap.size (.slice (some ⟨w.heap.size, 0, none⟩) 0 L.length) []) := Lib.hid hown1
  have HC1 := Lib.hid (HN.out.below hb1)
  clear hown1 hg1 hb1 hi hz0 hz1 hz2
  cases b with
  | none =>
    obtain rfl : L = [] := HN.out.2.2
    replace hmk : (Instr.makeSlice 22 (.int .i64 0) (.int .i64 0)).run Try.prog w = .ok (.slice (some ⟨w.heap.size, 0, none⟩) 0 0) w1 := hmk
    have hrn := run_range_nilMap (P := Try.prog) w1 60 9 3 Try.underlying60
    have hnn := fun ty => run_next_nilMap (P := Try.prog) w1 ty 0 0 #[]
    have HO2 : Hid (ownW (w1.alloc (.mapIter none 0 #[] 0)) w.heap.size (.slice (some ⟨w.heap.size, 0, none⟩) 0 0) []) := Lib.hid (HO1.out.kept fun g hg => Below.heap_alloc _ _ _ (HO1.out.lt g hg).2)
    go_enter Try.func27, Try.ntmps27
    go_wp2
    refine wp_loop_rounds 1 ?_
    rw [rounds_succ]
    go_wp2_with fail
    refine (sort_any (.slice (some ⟨w.heap.size, 0, none⟩) 0 0) [] [] _ w.heap.size HO2.out List.Pairwise.nil (List.Perm.refl _) (by simp)).mono ?_
    rintro e w5 ⟨rfl, hown5, hg5⟩
    have HO5 := Lib.hid hown5; have HG5 := Lib.hid hg5
    clear hown5 hg5
    go_wp2
    go_ret
    exact ⟨_, rfl, HO5.out, (HB1.out.alloc HB1.out.size _).grown HG5.out (by rw [World.size_alloc]; have := HB1.out.size; omega) fun g e => by cases e; exact Nat.le_refl _⟩
  | some m =>
    obtain ⟨w2, hrng, hrg2, hg2, hs2⟩ := World.ownsMap.range (w := w1) HC1.out.2.2 law9 Try.underlying60
    have HR2 := Lib.hid hrg2; have HG2 := Lib.hid hg2
    have HS2 := Lib.hid hs2
    clear hrg2 hg2 hs2
    have HS1 : Hid (w.heap.size ≤ w1.heap.size) := Lib.hid HB1.out.size
    obtain ⟨r, hr⟩ : ∃ r, w1.heap.size = r := ⟨_, rfl⟩
    rw [hr] at hrng HR2 HS1
    clear hr
    go_enter Try.func27, Try.ntmps27
    go_wp2
    go_loopw [3] (fun v wr => FrzRel w m r L v wr) (fun _ wr => wr.rangeLeft m r)
    case atStart =>
      refine ⟨_, _, [], HR2.out, HO1.out.kept fun g hg => HG2.out.block g (HO1.out.lt g hg).2 (by simp), ?_, HB1.out.grown HG2.out HB1.out.size (by simp)⟩
      rw [told_start]
    case round =>
      obtain ⟨left, cnt, M, hrg, hown, hM, hbel⟩ := hrel
      have HM := Lib.hid hM; have HO := Lib.hid hown; have HB := Lib.hid hbel; have HR := Lib.hid hrg
      clear hM hown hbel hrg
      have hMl := told_len HM.out
      go_wp2_with (at_next; refine wpList_next_words _ rfl _ rfl L m r left cnt rfl HR.out ?_ ?_)
      · intro _ hl0
        have HP : Hid (M.Perm L) := Lib.hid (by have := HM.out; rwa [told_end hl0] at this)
        clear hl0
        go_wp2_with fail
        refine (sort_any u3 L M _ w.heap.size HO.out HN.out.2.1.1 HP.out (by omega)).mono ?_
        rintro e w5 ⟨rfl, hown5, hg5⟩
        have HO5 := Lib.hid hown5; have HG5 := Lib.hid hg5
        clear hown5 hg5
        go_wp2
        go_ret
        exact ⟨_, rfl, HO5.out, HB.out.grown HG5.out HB.out.size fun g e => (HO.out.lt g e).1⟩
      · intro x c w3 cnt3 hlx hx hrg3 hlt hg3 hs3 hen
        have HL := Lib.hid hlx; have HX := Lib.hid hx; have HR3 := Lib.hid hrg3; have HT := Lib.hid hlt; have HG3 := Lib.hid hg3
        have HO3 : Hid (ownW w3 w.heap.size u3 M) := Lib.hid (HO.out.kept fun g hg => HG3.out.block g (HO.out.lt g hg).2 (fun e => by
          have := row_ne_iter HO.out HR.out
          rw [hg] at this; exact this e.symm))
        have HO4 : Hid (ownW (w3.alloc (.cells #[.string x, .int .i64 c] 36)) w.heap.size u3 M) := Lib.hid (HO3.out.kept fun g hg => Below.heap_alloc _ _ _ (HO3.out.lt g hg).2)
        have HZ : Hid (w.heap.size ≤ (w3.alloc (.cells #[.string x, .int .i64 c] 36)).heap.size) := Lib.hid (by rw [World.size_alloc]; have := HB.out.size; have := HG3.out.size; omega)
        clear hlx hx hrg3 hlt hg3 hs3
        go_wp2_with (at_builtin; refine wpList_append_words rfl (.tmp 24) (.tmp 28) rfl w.heap.size u3 _ M [(x, c)] rfl rfl HO4.out (one_word w3 x c) (fun n c e => by cases e) (by simp; omega) HZ.out ?_; intro r5 w5 hown5 hg5 _; have HO5 := Lib.hid hown5; have HG5 := Lib.hid hg5; clear hown5 hg5)
        have HS := Lib.hid (frz_step HN.out.2.1.1 HB.out HM.out HL.out HX.out HS1.out HG3.out HR3.out HO3.out HO5.out HG5.out)
        go_roundw
        case rel => exact HS.out.1
        case measure => rw [HS.out.2.left_eq, HR.out.left_eq]; exact HT.out
theorem freeze_nil (w : World) : Calls Try.prog 27 #[.pointer none] w fun e w' => e = .returned (.slice none 0 0) ∧ w' = w := by
  go_enter Try.func27, Try.ntmps27
  go_wp2
  go_ret
  exact ⟨rfl, rfl⟩
end Go.Proofs.Ytikaclfcajnddaa
