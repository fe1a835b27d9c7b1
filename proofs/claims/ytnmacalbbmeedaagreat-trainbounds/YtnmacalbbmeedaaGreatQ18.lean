/- Texts in one: ApP, Mrg. -/
import Derived.Test.YtnmacalbbmeedaaGreatQ17
import Derived.Test.YtnmacalbbmeedaaGreatQ15
import Derived.Test.YtnmacalbbmeedaaGreatQ13
import Derived.ArgAppend
/- Apply, as plain lists, and its memory. -/
namespace Go.Proofs.YtnmacalbbmeedaaGreat
open Go.RowKit Go.Maps

/-- Changes added one by one, up to the first that can't be: what is there then, and the error's number. -/
def runC (t : Int) : Cn → List Chg → Cn × Int
  | L, [] => (L, 0)
  | L, x :: r => if (addC L x.1 x.2 t).2 = 0 then runC t (addC L x.1 x.2 t).1 r else (L, (addC L x.1 x.2 t).2)
set_option maxRecDepth 100000 in
theorem runC_ok {t : Int} {L M : Cn} {x : Chg} {r : List Chg} (h : addC L x.1 x.2 t = (M, 0)) : runC t L (x :: r) = runC t M r := by rw [runC, h, if_pos rfl]
set_option maxRecDepth 100000 in
theorem runC_no {t e : Int} {L M : Cn} {x : Chg} {r : List Chg} (h : addC L x.1 x.2 t = (M, e)) (he : e ≠ 0) : runC t L (x :: r) = (L, e) := by rw [runC, h, if_neg he]
set_option maxRecDepth 100000 in
theorem add_other {M : Cn} (h : RisC M) (p : Int × Int) (b t : Int) {q : Int × Int} (hq : q ≠ p) : getC (addC M p b t).1 q = getC M q := by
  unfold addC
  split
  · rfl
  · cases (movOf (getC M p) b t).2
    · rfl
    · show getC (setC M p _) q = _
      rw [get_set h, if_neg hq]
def seenC (X : List Chg) (k : Nat) (p : Int × Int) : Prop := ∃ x ∈ X.take k, x.1 = p
set_option maxRecDepth 100000 in
theorem seen_succ {X : List Chg} {k : Nat} (hk : k < X.length) (p : Int × Int) : seenC X (k + 1) p ↔ seenC X k p ∨ p = X[k].1 := by
  unfold seenC
  rw [List.take_succ_eq_append_getElem hk]
  constructor
  · rintro ⟨x, hx, rfl⟩
    rcases List.mem_append.1 hx with h | h
    · exact .inl ⟨x, h, rfl⟩
    · rw [List.mem_singleton] at h; subst h; exact .inr rfl
  · rintro (⟨x, hx, rfl⟩ | rfl)
    · exact ⟨x, List.mem_append_left _ hx, rfl⟩
    · exact ⟨_, List.mem_append_right _ (List.mem_singleton.2 rfl), rfl⟩
/-- So far: k changes are added; M is there, W tells what was. -/
structure ApInv (t : Int) (L : Cn) (X : List Chg) (k : Nat) (M W : Cn) : Prop where
  run : runC t L X = runC t M (X.drop k)
  was : ∀ p c, (p, c) ∈ W ↔ seenC X k p ∧ c = getC L p
  out : ∀ p, ¬ seenC X k p → getC M p = getC L p
  risW : RisC W
  lenM : M.length ≤ L.length + k
  lenW : W.length ≤ k
  good : GoodC M
set_option maxRecDepth 100000 in
theorem ApInv.start (t : Int) {L : Cn} (X : List Chg) (h : GoodC L) : ApInv t L X 0 L [] :=
  ⟨rfl, fun p c => by simp [seenC], fun _ _ => rfl, List.Pairwise.nil, Nat.le_refl _, Nat.le_refl _, h⟩
set_option maxRecDepth 100000 in
theorem ApInv.seen {t : Int} {L : Cn} {X : List Chg} {k : Nat} {M W : Cn} (h : ApInv t L X k M W) {p : Int × Int} (hi : inC W p = true) : seenC X k p := ((h.was _ _).1 (get_in hi)).1
set_option maxRecDepth 100000 in
theorem ApInv.unseen {t : Int} {L : Cn} {X : List Chg} {k : Nat} {M W : Cn} (h : ApInv t L X k M W) {p : Int × Int} (hi : inC W p = false) : ¬ seenC X k p := fun hs => by
  have := inC_iff.2 ⟨_, (h.was p _).2 ⟨hs, rfl⟩⟩
  rw [hi] at this; cases this
set_option maxRecDepth 100000 in
theorem ApInv.next {t : Int} {L : Cn} {X : List Chg} {k : Nat} {M M' W W' : Cn} (h : ApInv t L X k M W) (hk : k < X.length) (ha : addC M X[k].1 X[k].2 t = (M', 0)) (hp : FitsPr X[k].1)
    (hW : (inC W X[k].1 = true ∧ W' = W) ∨ (inC W X[k].1 = false ∧ W' = insC X[k].1 (getC M X[k].1) W)) : ApInv t L X (k + 1) M' W' := by
  have hM' : (addC M X[k].1 X[k].2 t).1 = M' := by rw [ha]
  refine ⟨?_, fun p c => ?_, fun p hp' => ?_, ?_, ?_, ?_, ?_⟩
  · rw [h.run, List.drop_eq_getElem_cons hk, runC_ok ha]
  · rw [seen_succ hk]
    rcases hW with ⟨hi, rfl⟩ | ⟨hi, rfl⟩
    · rw [h.was]
      constructor
      · rintro ⟨h1, h2⟩; exact ⟨.inl h1, h2⟩
      · rintro ⟨h1 | h1, h2⟩
        · exact ⟨h1, h2⟩
        · exact ⟨by rw [h1]; exact h.seen hi, h2⟩
    · have hns := h.unseen hi
      rw [ins_mem, h.was]
      constructor
      · rintro (e | ⟨⟨h1, h2⟩, _⟩)
        · cases e; exact ⟨.inr rfl, h.out _ hns⟩
        · exact ⟨.inl h1, h2⟩
      · rintro ⟨h1, h2⟩
        by_cases e : p = X[k].1
        · subst e; exact .inl (by rw [h2, h.out _ hns])
        · exact .inr ⟨⟨h1.resolve_right e, h2⟩, e⟩
  · rw [seen_succ hk] at hp'
    rw [← hM', add_other h.good.ris _ _ _ (fun e => hp' (.inr e)), h.out p fun hs => hp' (.inl hs)]
  · rcases hW with ⟨_, rfl⟩ | ⟨_, rfl⟩
    · exact h.risW
    · exact ris_ins h.risW
  · have := addC_len h.good.ris X[k].1 X[k].2 t
    rw [hM'] at this
    have := h.lenM
    omega
  · rcases hW with ⟨_, rfl⟩ | ⟨hi, rfl⟩
    · have := h.lenW; omega
    · rw [len_ins h.risW, hi]; have := h.lenW; simp; omega
  · rw [← hM']; exact h.good.add hp _ _
set_option maxRecDepth 100000 in
theorem ApInv.stop {t e : Int} {L : Cn} {X : List Chg} {k : Nat} {M M' W : Cn} (h : ApInv t L X k M W) (hk : k < X.length) (ha : addC M X[k].1 X[k].2 t = (M', e)) (he : e ≠ 0) : runC t L X = (M', e) := by
  rw [h.run, List.drop_eq_getElem_cons hk, runC_no ha he]
  rcases addC_err M X[k].1 X[k].2 t with h1 | h1
  · rw [ha] at h1; exact absurd h1 he
  · rw [ha] at h1; rw [← h1]
/-- The pairs whose counts are others, rising. -/
def ChgSet (L M : Cn) (X : List Chg) (Y : List (Int × Int)) : Prop := Y.Pairwise pb ∧ ∀ p, p ∈ Y ↔ (∃ x ∈ X, x.1 = p) ∧ getC M p ≠ getC L p
set_option maxRecDepth 100000 in
theorem ApInv.fin {t : Int} {L : Cn} {X : List Chg} {M W Z : Cn} (h : ApInv t L X X.length M W) (hZ : RisC Z) (hm : ∀ x, x ∈ Z ↔ x ∈ W ∧ x.2 ≠ getC M x.1) : runC t L X = (M, 0) ∧ ChgSet L M X (keysC Z) := by
  refine ⟨by rw [h.run, List.drop_length]; rfl, ris_keys hZ, fun p => ?_⟩
  have hs : seenC X X.length p ↔ ∃ x ∈ X, x.1 = p := by unfold seenC; rw [List.take_length]
  rw [keysC, List.mem_map]
  constructor
  · rintro ⟨x, hx, rfl⟩
    obtain ⟨h1, h2⟩ := (hm x).1 hx
    obtain ⟨h3, h4⟩ := (h.was x.1 x.2).1 h1
    exact ⟨hs.1 h3, fun e => h2 (by rw [h4, e])⟩
  · rintro ⟨h1, h2⟩
    exact ⟨(p, getC L p), (hm _).2 ⟨(h.was _ _).2 ⟨hs.2 h1, rfl⟩, fun e => h2 e.symm⟩, rfl⟩
/-- What Apply has in memory. -/
structure ApSt (w : World) (K C b : Nat) (m0 : Option Nat) (M W : Cn) (wr : World) : Prop where
  obj : ∃ m, Cts wr K m M ∧ (m = m0 ∨ ∃ g, m = some g ∧ w.heap.size ≤ g) ∧ ¬ dmineC K m b
  box : wr.heap[C]? = some (.cells #[.pointer (some ⟨K, 0, none⟩)] 97 (0, 0))
  was : CMap wr b W
  kept : Kept (dmineC K m0) w wr
  newC : w.heap.size ≤ C
  newb : w.heap.size ≤ b
set_option maxRecDepth 100000 in
theorem ApSt.ltC {w wr : World} {K C b : Nat} {m0 : Option Nat} {M W : Cn} (h : ApSt w K C b m0 M W wr) : C < wr.heap.size := (Array.getElem?_eq_some_iff.1 h.box).1
set_option maxRecDepth 100000 in
theorem ApSt.cell {w wr : World} {K C b : Nat} {m0 : Option Nat} {M W : Cn} (h : ApSt w K C b m0 M W wr) : wr.cell? ⟨C, 0, none⟩ = some (.pointer (some ⟨K, 0, none⟩)) := by
  rw [cell_of_row wr C 0 _ 97 (0, 0) h.box]; rfl
set_option maxRecDepth 100000 in
theorem ApSt.neCb {w wr : World} {K C b : Nat} {m0 : Option Nat} {M W : Cn} (h : ApSt w K C b m0 M W wr) : C ≠ b := by
  rintro rfl
  obtain ⟨es, clock, hb⟩ := h.was.block
  have := h.box
  rw [hb] at this; cases this
set_option maxRecDepth 100000 in
theorem ApSt.later {w wr w' : World} {K C b : Nat} {m0 : Option Nat} {M W : Cn} (h : ApSt w K C b m0 M W wr) (hb : Below wr.heap.size wr w') : ApSt w K C b m0 M W w' := by
  obtain ⟨⟨m, h1, h2, h3⟩, hbox, hwas, hk, hc, hbb⟩ := h
  refine ⟨⟨m, h1.below hb, h2, h3⟩, (hb.block C (Array.getElem?_eq_some_iff.1 hbox).1).trans hbox, hwas.kept (hb.block b hwas.lt), ?_, hc, hbb⟩
  exact hk.trans (Kept.of_below (S := fun _ => False) hb (Nat.le_refl _)) (fun _ _ h => h.elim)
set_option maxRecDepth 100000 in
/-- The map of what was is turned. -/
theorem ApSt.put {w wr w' : World} {K C b : Nat} {m0 : Option Nat} {M W W' : Cn} (h : ApSt w K C b m0 M W wr) (ht : wr.grownBy w' (some b)) (hW : CMap w' b W') : ApSt w K C b m0 M W' w' := by
  have hne := h.neCb
  obtain ⟨⟨m, h1, h2, h3⟩, hbox, hwas, hk, hc, hbb⟩ := h
  refine ⟨⟨m, h1.kept fun k hlt hm => ht.block k hlt fun e => by cases e; exact h3 hm, h2, h3⟩, (ht.block C (Array.getElem?_eq_some_iff.1 hbox).1 (fun e => hne (by cases e; rfl))).trans hbox, hW, ?_, hc, hbb⟩
  exact hk.grown ht fun k e hk' => by cases e; omega
set_option maxRecDepth 100000 in
theorem ApSt.env {w wr : World} {K C b : Nat} {m0 : Option Nat} {M W : Cn} (h : ApSt w K C b m0 M W wr) : ∃ m, DEnv wr C K b m M := by
  have h0 := h.cell; have h1 := h.ltC; have h2 := h.neCb
  obtain ⟨⟨m, h3, _, h4⟩, _⟩ := h
  exact ⟨m, h0, h3, h1, h2, h4⟩
set_option maxRecDepth 100000 in
theorem ApSt.add {w wr : World} {K C b : Nat} {m0 : Option Nat} {M W : Cn} (h : ApSt w K C b m0 M W wr) (hg : GoodC M) {p q y t : Int} (hp : FitsPr (p, q)) (hy : FitsZ y) (ht : FitsZ t) (hl : M.length ≤ 1048576) :
    Calls Tryz.prog 105 #[.pointer (some ⟨K, 0, none⟩), .agg #[.int .i64 p, .int .i64 q], .int .i64 y, .int .i64 t] wr fun e w' => e = .returned (.int .i64 (addC M (p, q) y t).2) ∧ ApSt w K C b m0 (addC M (p, q) y t).1 W w' := by
  obtain ⟨⟨m, h1, h2, h3⟩, hbox, hwas, hk, hc, hbb⟩ := h
  refine (dcadd_any K m M p q y t wr h1 hg hp hy ht hl).mono ?_
  rintro e w' ⟨rfl, m', h4, h5, h6⟩
  have hCm : ¬ dmineC K m C := by
    rintro (rfl | e)
    · have := h1.1; rw [hbox] at this; cases this
    · subst e
      obtain ⟨es, clock, hb⟩ := CMap.block h1.2
      rw [hbox] at hb; cases hb
  refine ⟨rfl, ⟨m', h4, ?_, ?_⟩, (h5.block C (Array.getElem?_eq_some_iff.1 hbox).1 hCm).trans hbox, hwas.kept (h5.block b hwas.lt h3), hk.trans h5 fun i hi hm => ?_, hc, hbb⟩
  · rcases h6 with rfl | ⟨g, rfl, hg⟩
    · exact h2
    · exact .inr ⟨g, rfl, Nat.le_trans hk.size hg⟩
  · rintro (e | e)
    · exact h3 (.inl e)
    · rcases h6 with rfl | ⟨g, rfl, hg⟩
      · exact h3 (.inr e)
      · cases e; have := hwas.lt; omega
  · rcases hm with e | e
    · exact .inl e
    · rcases h2 with rfl | ⟨g, rfl, hg⟩
      · exact .inr e
      · cases e; omega
set_option maxRecDepth 100000 in
theorem ApSt.ret {w wr : World} {K C b : Nat} {m0 : Option Nat} {M W : Cn} (h : ApSt w K C b m0 M W wr) : CRet K m0 M w wr := by
  obtain ⟨⟨m, h1, h2, _⟩, _, _, hk, _, _⟩ := h
  exact ⟨m, h1, hk, h2⟩
end Go.Proofs.YtnmacalbbmeedaaGreat
/- A sequence merged: the steps. -/
namespace Go.Proofs.YtnmacalbbmeedaaGreat
open Go.RowKit Go.Maps

set_option maxRecDepth 100000 in
set_option maxHeartbeats 1000000 in
theorem stands_yes (g n c k : Nat) (Z : List Int) (p q : Int) (w : World) (h : rowE intE w g Z) (hn : n ≤ Z.length) (hl : n ≤ 1000) (hk : k + 1 < n) (e0 : Z[k] = p) (e1 : Z[k + 1] = q) :
    Calls Tryz.prog 102 #[.slice (some ⟨g, 0, none⟩) n c, .int .i64 (k : Int), .agg #[.int .i64 p, .int .i64 q]] w fun e w' => e = .returned (.bool true) ∧ Below w.heap.size w w' := by
  obtain ⟨w1, hw1⟩ : ∃ w1, w1 = w.alloc (.cells #[.int .i64 p, .int .i64 q] 77) := ⟨_, rfl⟩
  have HB : Hid (Below w.heap.size w w1) := Lib.hid (by rw [hw1]; exact (Below.refl _ w).alloc (Nat.le_refl _) _)
  have c0 : w1.cell? ⟨g, k, none⟩ = some (.int .i64 p) := by rw [← e0]; exact (HB.out.cell h.lt).trans (rowI_cell h (by omega)).1
  have c1 : w1.cell? ⟨g, k + 1, none⟩ = some (.int .i64 q) := by rw [← e1]; exact (HB.out.cell h.lt).trans (rowI_cell h (by omega)).1
  have b0 : w1.cell? ⟨w.heap.size, 0, none⟩ = some (.int .i64 p) := by rw [hw1]; simp
  have b1 : w1.cell? ⟨w.heap.size, 1, none⟩ = some (.int .i64 q) := by rw [hw1]; simp
  have hs : IntKind.i64.wrap ((k : Int) + 1) = (k : Int) + 1 := IntWalk.i64_in _ (by omega)
  have hgo : (k : Int) + 1 < (n : Int) := by omega
  have i1 : (k : Int) < (n : Int) := by omega
  have i2 : (0 : Int) ≤ (k : Int) + 1 := by omega
  have i4 : ((k : Int) + 1).toNat = k + 1 := by omega
  have hw' := hw1.symm
  clear hw1 h e0 e1 hn hl hk
  go_enter Tryz.func102, Tryz.ntmps102
  go_wp2_with fail
  go_quiet (fail)
  go_wp2
  go_ret
  exact ⟨rfl, below_drewN' HB.out _⟩
set_option maxRecDepth 100000 in
set_option maxHeartbeats 1000000 in
theorem stands_no (g n c k : Nat) (Z : List Int) (p q : Int) (w : World) (h : rowE intE w g Z) (hn : n ≤ Z.length) (hl : n ≤ 1000) (hk : k < n) (hno : ∀ h2 : k + 1 < n, ¬ (Z[k] = p ∧ Z[k + 1] = q)) :
    Calls Tryz.prog 102 #[.slice (some ⟨g, 0, none⟩) n c, .int .i64 (k : Int), .agg #[.int .i64 p, .int .i64 q]] w fun e w' => e = .returned (.bool false) ∧ Below w.heap.size w w' := by
  obtain ⟨w1, hw1⟩ : ∃ w1, w1 = w.alloc (.cells #[.int .i64 p, .int .i64 q] 77) := ⟨_, rfl⟩
  have HB : Hid (Below w.heap.size w w1) := Lib.hid (by rw [hw1]; exact (Below.refl _ w).alloc (Nat.le_refl _) _)
  have b0 : w1.cell? ⟨w.heap.size, 0, none⟩ = some (.int .i64 p) := by rw [hw1]; simp
  have b1 : w1.cell? ⟨w.heap.size, 1, none⟩ = some (.int .i64 q) := by rw [hw1]; simp
  have hs : IntKind.i64.wrap ((k : Int) + 1) = (k : Int) + 1 := IntWalk.i64_in _ (by omega)
  have i1 : (k : Int) < (n : Int) := by omega
  have i2 : (0 : Int) ≤ (k : Int) + 1 := by omega
  have i4 : ((k : Int) + 1).toNat = k + 1 := by omega
  have hw' := hw1.symm
  by_cases h2 : k + 1 < n
  · obtain ⟨a, ha⟩ : ∃ a, Z[k] = a := ⟨_, rfl⟩
    obtain ⟨b, hb⟩ : ∃ b, Z[k + 1] = b := ⟨_, rfl⟩
    have c0 : w1.cell? ⟨g, k, none⟩ = some (.int .i64 a) := by rw [← ha]; exact (HB.out.cell h.lt).trans (rowI_cell h (by omega)).1
    have c1 : w1.cell? ⟨g, k + 1, none⟩ = some (.int .i64 b) := by rw [← hb]; exact (HB.out.cell h.lt).trans (rowI_cell h (by omega)).1
    have hgo : (k : Int) + 1 < (n : Int) := by omega
    have hno' := hno h2
    rw [ha, hb] at hno'
    clear hno hw1 h ha hb hn hl hk h2
    by_cases ea : a = p
    · have eb : ¬ q = b := fun e => hno' ⟨ea, e.symm⟩
      subst ea
      clear hno'
      go_enter Tryz.func102, Tryz.ntmps102
      go_wp2_with fail
      go_quiet (fail)
      go_wp2
      go_ret
      exact ⟨rfl, below_drewN' HB.out _⟩
    · have eb : ¬ p = a := fun e => ea e.symm
      clear hno' ea
      go_enter Tryz.func102, Tryz.ntmps102
      go_wp2_with fail
      go_quiet (fail)
      go_wp2
      go_ret
      exact ⟨rfl, below_drewN' HB.out _⟩
  · have hgo : decide ((k : Int) + 1 < (n : Int)) = false := decide_eq_false (by omega)
    clear hno hw1 h hn hl hk h2
    go_enter Tryz.func102, Tryz.ntmps102
    go_wp2_with fail
    go_quiet (fail)
    go_wp2
    go_ret
    exact ⟨rfl, below_drewN' HB.out _⟩
/-! The worlds of a round. -/
set_option maxRecDepth 100000 in
theorem PMap.mono {w : World} {b N N' : Nat} {f : Int × Int → Int} (h : PMap w b N f) (hN : N ≤ N') : PMap w b N' f := by
  obtain ⟨D, ⟨es, clock, hb, F, hs, hD⟩, h1, h2⟩ := h
  exact ⟨D, ⟨es, clock, hb, F, by omega, hD⟩, h1, fun p => by have := h2 p; omega⟩
set_option maxRecDepth 100000 in
theorem head_none (g n c : Nat) (w : World) : (Instr.slice 87 (.slice (some ⟨g, 0, none⟩) n c) none (some (.int .i64 0)) none).run Tryz.prog w = .ok (.slice (some ⟨g, 0, none⟩) 0 c) w := by
  have := run_slice_h w 87 (some ⟨g, 0, none⟩) n c elemInts .i64 0 (by omega) (by omega)
  rw [sizeInts] at this
  rw [this]
  simp [sliced, add_zero_off]
/-- What stays: the sequence as it was, and the box of the pair. -/
structure MBase (w2 : World) (K g b Bp : Nat) (X Y : List Int) (p q : Int) : Prop where
  seq : SeqO w2 K g X Y
  b0 : w2.cell? ⟨Bp, 0, none⟩ = some (.int .i64 p)
  b1 : w2.cell? ⟨Bp, 1, none⟩ = some (.int .i64 q)
  ltB : Bp < w2.heap.size
  nBg : Bp ≠ g
  nBb : Bp ≠ b
  nKb : K ≠ b
  ngb : g ≠ b
  ltb : b < w2.heap.size
structure St (w2 : World) (g b : Nat) (Z M : List Int) (N : Nat) (f : Int × Int → Int) (u : World) : Prop where
  row : rowE intE u g (M ++ Z.drop M.length)
  map : PMap u b N f
  kept : Kept (fun j => j = g ∨ j = b) w2 u
section
variable {w2 u u' : World} {K g b Bp : Nat} {X Y M : List Int} {p q : Int} {N N' : Nat} {f f' : Int × Int → Int}
set_option maxRecDepth 100000 in
theorem St.box (h : St w2 g b (X ++ Y) M N f u) (E : MBase w2 K g b Bp X Y p q) : u.cell? ⟨Bp, 0, none⟩ = some (.int .i64 p) ∧ u.cell? ⟨Bp, 1, none⟩ = some (.int .i64 q) := by
  have := h.kept.block Bp E.ltB (by have := E.nBg; have := E.nBb; omega)
  exact ⟨(World.cell?_of_block this).trans E.b0, (World.cell?_of_block this).trans E.b1⟩
set_option maxRecDepth 100000 in
theorem St.get {k : Nat} (hk : M.length ≤ k) (hX : k < X.length) : ∃ h, (M ++ (X ++ Y).drop M.length)[k]'h = X[k] := by
  refine ⟨by simp; omega, ?_⟩
  rw [List.getElem_append_right hk, List.getElem_drop, List.getElem_append_left (by omega)]
  congr 1
  omega
set_option maxRecDepth 100000 in
theorem St.cell (h : St w2 g b (X ++ Y) M N f u) {k : Nat} (hk : M.length ≤ k) (hX : k < X.length) : u.cell? ⟨g, k, none⟩ = some (.int .i64 X[k]) := by
  obtain ⟨h1, h2⟩ := St.get (Y := Y) hk hX
  rw [← h2]
  exact (rowI_cell h.row h1).1
set_option maxRecDepth 100000 in
theorem St.lastM (h : St w2 g b (X ++ Y) M N f u) {m : Nat} (hm : M.length = m + 1) : u.cell? ⟨g, m, none⟩ = some (.int .i64 (M[m]'(by omega))) := by
  have := (rowI_cell h.row (j := m) (by simp; omega)).1
  rwa [List.getElem_append_left (by omega)] at this
set_option maxRecDepth 100000 in
theorem St.prev (h : St w2 g b (X ++ Y) M N f u) {s : Int} {pr : Int × Int} {j n : Nat} {f0 : Int × Int → Int} {ws : Bool} (hi : MInv X pr s (j + 1) M n f0 ws) : u.cell? ⟨g, j, none⟩ = some (.int .i64 (X[j]'(by have := hi.le; omega))) := by
  have hsz := hi.size
  have hle := hi.le
  by_cases hn : n = 0
  · have hM := hi.same hn
    have hml : M.length = j + 1 := by omega
    rw [h.lastM hml]
    subst hM
    simp
  · exact h.cell (by omega) (by omega)
set_option maxRecDepth 100000 in
theorem St.below (h : St w2 g b (X ++ Y) M N f u) (hb : Below u.heap.size u u') : St w2 g b (X ++ Y) M N f u' :=
  ⟨h.row.kept (hb.block g h.row.lt), h.map.kept (hb.block b h.map.lt), h.kept.trans (T := fun _ => False) ⟨hb.os, hb.tape, hb.output, hb.size, fun k hk _ => hb.block k hk⟩ (fun _ _ h => h.elim)⟩
set_option maxRecDepth 100000 in
theorem St.add (h : St w2 g b (X ++ Y) M N f u) (hm : PMap u' b N' f') (hk : Kept (fun j => j = b) u u') (hne : g ≠ b) : St w2 g b (X ++ Y) M N' f' u' :=
  ⟨h.row.kept (hk.block g h.row.lt hne), hm, h.kept.trans hk (fun _ _ e => .inr e)⟩
set_option maxRecDepth 100000 in
theorem St.drew (h : St w2 g b (X ++ Y) M N f u) : St w2 g b (X ++ Y) M N f u.drew := ⟨h.row, h.map, h.kept.drew⟩
set_option maxRecDepth 100000 in
theorem St.app (h : St w2 g b (X ++ Y) M N f u) (t : Int) {m : Nat} (hm : M.length = m) (hr : M.length < X.length + Y.length) (hne : g ≠ b) : St w2 g b (X ++ Y) (M ++ [t]) N f (u.setCell ⟨g, m, none⟩ (.int .i64 t)) := by
  subst hm
  refine ⟨?_, h.map.kept (Below.heap_setCell _ _ _ _ (fun e => hne e.symm)), h.kept.setCell _ _ (fun _ => .inl rfl)⟩
  have := rowI_store h.row (j := M.length) (by simp; omega) t
  rw [List.set_append_right _ _ (Nat.le_refl _), Nat.sub_self, List.drop_eq_getElem_cons (by simp; omega), List.set_cons_zero] at this
  simpa using this
set_option maxRecDepth 100000 in
theorem St.mono (h : St w2 g b (X ++ Y) M N f u) (hN : N ≤ N') : St w2 g b (X ++ Y) M N' f u := ⟨h.row, h.map.mono hN, h.kept⟩
end
set_option maxRecDepth 100000 in
/-- 'append(merged, t)' where there is room: one cell is written. -/
theorem wpList_append_in {w : World} {ops : Array Oper} {rest : List Oper} {o : Oper} {a : Act} {Q : Exit → Act → World → Prop} (hgd : o.guard = none) (s x : Operand)
    (ho : o.op = .call { callee := .builtin .append, args := #[s, x], argTypes := #[87, 87] }) (g n c nb : Nat) (t : Int) (Z : List Int) (hs : a.eval s = .slice (some ⟨g, 0, none⟩) n c) (hx : a.eval x = .slice (some ⟨nb, 0, none⟩) 1 1)
    (hrow : rowE intE w g Z) (hroom : n + 1 ≤ c) (hZ : n < Z.length) (hnew : w.cell? ⟨nb, 0, none⟩ = some (.int .i64 t))
    (h : wpList Tryz.prog ops Q rest (a.put o.dst (.slice (some ⟨g, 0, none⟩) (n + 1) c)) (w.setCell ⟨g, n, none⟩ (.int .i64 t))) : wpList Tryz.prog ops Q (o :: rest) a w := by
  refine wpList_plain hgd fun K hK => ?_
  obtain ⟨j0, hj, hy0, hy1, hy2⟩ := info_parts intE.info
  have hy1' : j0.size = 1 := hy1
  obtain ⟨r1, r2⟩ := rowI_cell hrow hZ
  have hr := run_append_room_cells (P := Tryz.prog) (w := w) 87 o.type 3 j0 Tryz.underlying87 hj g 0 n c ⟨nb, 0, none⟩ 1 1 [.int .i64 t] (by rw [hy1']; rfl) (fun j u hu => by
    match j, hu with
    | 0, hu => cases hu; rw [add_zero_off]; exact hnew) (by simp; rfl) hroom (fun j hj => by
      have : j = 0 := by simpa using hj
      subst this
      rw [hy1', Nat.zero_add, Nat.mul_one, Nat.add_zero, r1]; rfl) (fun j hj => by
      have : j = 0 := by simpa using hj
      subst this
      rw [hy1', Nat.zero_add, Nat.mul_one, Nat.add_zero, r2])
  have e : w.setCells g (0 + n * j0.size) [.int .i64 t] = w.setCell ⟨g, n, none⟩ (.int .i64 t) := by
    rw [hy1', Nat.zero_add, Nat.mul_one]; rfl
  rw [e] at hr
  unfold Oper.wp execOp
  simp only [ho, resolve, invoke, builtin, Sem.run_bind, Sem.run_pure, Result.andThen_ok, List.map_toArray, List.map_cons, List.map_nil, hs, hx, hr]
  exact hK _ _ h
/-! The five ways of a round, as plain lists. -/
section
variable {X M : List Int} {p : Int × Int} {s : Int} {n : Nat} {f : Int × Int → Int} {ws : Bool}
set_option maxRecDepth 100000 in
theorem mrg_A (h : MInv X p s 0 M n f ws) (h1 : 1 < X.length) (e0 : X[0] = p.1) (e1 : X[1] = p.2) : MInv X p s 2 (M ++ [s]) (n + 1) (addP f p (-1)) true :=
  minv_merge h h1 e0 e1 fun q => by
    rw [addP_eq, dif_neg (by simp)]
    split <;> omega
set_option maxRecDepth 100000 in
theorem mrg_B {j m : Nat} (h : MInv X p s (j + 1) M n f ws) (hm : M.length = m + 1) (h1 : j + 1 + 1 < X.length) (e0 : X[j + 1] = p.1) (e1 : X[j + 1 + 1] = p.2) :
    MInv X p s (j + 1 + 2) (M ++ [s]) (n + 1) (addP (addP (addP f p (-1)) (X[j], X[j + 1]) (-1)) (M[m], s) 1) true :=
  minv_merge h h1 e0 e1 fun q => by
    rw [addP_eq, addP_eq, addP_eq, dif_pos ⟨by omega, by omega⟩]
    simp only [hm, Nat.add_sub_cancel]
    split <;> split <;> split <;> omega
set_option maxRecDepth 100000 in
theorem mrg_C (h : MInv X p s 0 M n f ws) (h1 : 0 < X.length) (hno : ∀ h2 : 0 + 1 < X.length, ¬ (X[0] = p.1 ∧ X[0 + 1] = p.2)) : MInv X p s 1 (M ++ [X[0]]) n f false :=
  minv_keep h h1 hno fun q => by rw [dif_neg (by simp)]; omega
set_option maxRecDepth 100000 in
theorem mrg_D {j m : Nat} (h : MInv X p s (j + 1) M n f true) (hm : M.length = m + 1) (h1 : j + 1 < X.length) (hno : ∀ h2 : j + 1 + 1 < X.length, ¬ (X[j + 1] = p.1 ∧ X[j + 1 + 1] = p.2)) :
    MInv X p s (j + 1 + 1) (M ++ [X[j + 1]]) n (addP (addP f (X[j], X[j + 1]) (-1)) (M[m], X[j + 1]) 1) false :=
  minv_keep h h1 hno fun q => by
    rw [addP_eq, addP_eq, dif_pos ⟨⟨by omega, by omega⟩, rfl⟩]
    simp only [hm, Nat.add_sub_cancel]
    split <;> split <;> omega
set_option maxRecDepth 100000 in
theorem mrg_E {k : Nat} (h : MInv X p s k M n f false) (h1 : k < X.length) (hno : ∀ h2 : k + 1 < X.length, ¬ (X[k] = p.1 ∧ X[k + 1] = p.2)) : MInv X p s (k + 1) (M ++ [X[k]]) n f false :=
  minv_keep h h1 hno fun q => by rw [dif_neg (by simp)]; omega
end
end Go.Proofs.YtnmacalbbmeedaaGreat
