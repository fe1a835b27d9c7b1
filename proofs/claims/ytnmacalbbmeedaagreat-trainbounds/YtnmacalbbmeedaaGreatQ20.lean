/- Texts in one: IxP. -/
import Derived.Test.YtnmacalbbmeedaaGreatQ16
import Derived.Test.YtnmacalbbmeedaaGreatQ18
import Derived.Test.YtnmacalbbmeedaaGreatQ19
/- Words and their counts, plain: how often a pair is there in all; changes added. -/
namespace Go.Proofs.YtnmacalbbmeedaaGreat
open Go.RowKit Go.Maps

abbrev Wd := List Int × Int
def sumW (g : Wd → Int) : List Wd → Int
  | [] => 0
  | x :: r => g x + sumW g r
set_option maxRecDepth 100000 in
theorem sumW_app (g : Wd → Int) (a b : List Wd) : sumW g (a ++ b) = sumW g a + sumW g b := by
  induction a with
  | nil => simp [sumW]
  | cons x r ih => simp only [List.cons_append, sumW, ih]; omega
set_option maxRecDepth 100000 in
theorem sumW_set (g : Wd → Int) (y : Wd) : ∀ {ws : List Wd} {j : Nat} {x : Wd}, ws[j]? = some x → sumW g (ws.set j y) = sumW g ws + (g y - g x)
  | [], j, x, h => by simp at h
  | z :: r, 0, x, h => by
    simp only [List.getElem?_cons_zero, Option.some.injEq] at h
    subst h
    simp only [List.set_cons_zero, sumW]; omega
  | z :: r, j + 1, x, h => by
    simp only [List.getElem?_cons_succ] at h
    have := sumW_set g y h
    simp only [List.set_cons_succ, sumW, this]; omega
set_option maxRecDepth 100000 in
theorem sumW_le {g h : Wd → Int} : ∀ {ws : List Wd}, (∀ x ∈ ws, g x ≤ h x) → sumW g ws ≤ sumW h ws
  | [], _ => by simp [sumW]
  | x :: r, k => by
    have h1 := k x (List.mem_cons_self ..)
    have h2 := sumW_le fun y hy => k y (List.mem_cons_of_mem _ hy)
    simp only [sumW]; omega
set_option maxRecDepth 100000 in
theorem sumW_nonneg {g : Wd → Int} : ∀ {ws : List Wd}, (∀ x ∈ ws, 0 ≤ g x) → 0 ≤ sumW g ws
  | [], _ => by simp [sumW]
  | x :: r, k => by
    have h1 := k x (List.mem_cons_self ..)
    have h2 := sumW_nonneg fun y hy => k y (List.mem_cons_of_mem _ hy)
    simp only [sumW]; omega
set_option maxRecDepth 100000 in
theorem sumW_mem {g : Wd → Int} {x : Wd} : ∀ {ws : List Wd}, (∀ x ∈ ws, 0 ≤ g x) → x ∈ ws → g x ≤ sumW g ws
  | [], _, h => by simp at h
  | y :: r, k, h => by
    have h1 := k y (List.mem_cons_self ..)
    have h2 := sumW_nonneg (ws := r) fun z hz => k z (List.mem_cons_of_mem _ hz)
    rcases List.mem_cons.1 h with rfl | h
    · simp only [sumW]; omega
    · have := sumW_mem (fun z hz => k z (List.mem_cons_of_mem _ hz)) h
      simp only [sumW]; omega
set_option maxRecDepth 100000 in
theorem sumW_congr {g h : Wd → Int} {ws : List Wd} (k : ∀ x ∈ ws, g x = h x) : sumW g ws = sumW h ws :=
  Int.le_antisymm (sumW_le fun x hx => by rw [k x hx]; exact Int.le_refl _) (sumW_le fun x hx => by rw [k x hx]; exact Int.le_refl _)
/-- How often a pair is there in all. -/
def totW (ws : List Wd) (q : Int × Int) : Int := sumW (fun x => x.2 * cntP x.1 q) ws
/-- What all pairs together are. -/
def wtW (ws : List Wd) : Int := sumW (fun x => x.2 * ((x.1.length - 1 : Nat) : Int)) ws
def lenW (ws : List Wd) : Int := sumW (fun x => (x.1.length : Int)) ws
def adjW (ws : List Wd) : List (Int × Int) := ws.flatMap fun x => adj x.1
set_option maxRecDepth 100000 in
theorem cnt_le1 : ∀ (X : List Int) (q : Int × Int), cntP X q ≤ ((X.length - 1 : Nat) : Int)
  | [], _ => by simp [cntP]
  | [_], _ => by simp [cntP]
  | x :: y :: r, q => by
    have := cnt_le1 (y :: r) q
    simp only [cntP, List.length_cons] at this ⊢
    split <;> omega
set_option maxRecDepth 100000 in
theorem xcnt_adj : ∀ {X : List Int} {q : Int × Int}, cntP X q ≠ 0 → q ∈ adj X
  | [], _, h => absurd rfl h
  | [_], _, h => absurd rfl h
  | x :: y :: r, q, h => by
    rw [adj]
    by_cases e : (x, y) = q
    · rw [e]; exact List.mem_cons_self ..
    · rw [cntP, if_neg e, Int.zero_add] at h
      exact List.mem_cons_of_mem _ (xcnt_adj h)
set_option maxRecDepth 100000 in
theorem adj_cnt : ∀ {X : List Int} {q : Int × Int}, q ∈ adj X → 0 < cntP X q
  | [], _, h => by simp [adj] at h
  | [_], _, h => by simp [adj] at h
  | x :: y :: r, q, h => by
    rw [adj] at h
    have h0 := cnt_nonneg (y :: r) q
    rcases List.mem_cons.1 h with e | e
    · rw [cntP, if_pos e.symm]; omega
    · have := adj_cnt e
      rw [cntP]; split <;> omega
set_option maxRecDepth 100000 in
theorem times_cnt {p : Int × Int} : ∀ {X : List Int}, timesL p X = 0 ↔ cntP X p = 0
  | [] => by simp [timesL, cntP]
  | [_] => by simp [timesL, cntP]
  | x :: y :: r => by
    have h0 := cnt_nonneg (y :: r) p
    rw [timesL, cntP]
    by_cases e : x = p.1 ∧ y = p.2
    · rw [if_pos e, if_pos (Prod.ext e.1 e.2)]; omega
    · rw [if_neg e, if_neg (fun k : (x, y) = p => e ⟨by rw [← k], by rw [← k]⟩), Int.zero_add]
      exact times_cnt
set_option maxRecDepth 100000 in
theorem mulz {a b : Int} (ha : 0 ≤ a) (hb : 0 ≤ b) : 0 ≤ a * b := Int.mul_nonneg ha hb
set_option maxRecDepth 100000 in
theorem tot_nonneg {ws : List Wd} (h : ∀ x ∈ ws, 0 ≤ x.2) (q : Int × Int) : 0 ≤ totW ws q := sumW_nonneg fun x hx => mulz (h x hx) (cnt_nonneg _ _)
set_option maxRecDepth 100000 in
theorem tot_le {ws : List Wd} (h : ∀ x ∈ ws, 0 ≤ x.2) (q : Int × Int) : totW ws q ≤ wtW ws := sumW_le fun x hx => Int.mul_le_mul_of_nonneg_left (cnt_le1 x.1 q) (h x hx)
set_option maxRecDepth 100000 in
theorem tot_pos {ws : List Wd} (h : ∀ x ∈ ws, 1 ≤ x.2) {q : Int × Int} : 0 < totW ws q ↔ ∃ x ∈ ws, 0 < cntP x.1 q := by
  constructor
  · intro hp
    refine Classical.byContradiction fun hn => ?_
    have : totW ws q = 0 := by
      have e : totW ws q = sumW (fun _ => 0) ws := sumW_congr fun x hx => by
        have : cntP x.1 q = 0 := by
          have h0 := cnt_nonneg x.1 q
          have h1 : ¬ 0 < cntP x.1 q := fun k => hn ⟨x, hx, k⟩
          omega
        simp only [this, Int.mul_zero]
      rw [e]
      refine Int.le_antisymm ?_ (sumW_nonneg fun _ _ => Int.le_refl _)
      clear hp hn e h
      induction ws with
      | nil => simp [sumW]
      | cons x r ih => simp only [sumW]; omega
    omega
  · rintro ⟨x, hx, hc⟩
    have h1 := sumW_mem (g := fun x => x.2 * cntP x.1 q) (fun y hy => mulz (by have := h y hy; omega) (cnt_nonneg _ _)) hx
    have h2 : 1 * 1 ≤ x.2 * cntP x.1 q := Int.mul_le_mul (h x hx) hc (by decide) (by have := h x hx; omega)
    unfold totW
    omega
/-! Changes added. -/
set_option maxRecDepth 100000 in
theorem mov1 {c b : Int} (hc : 0 ≤ c ∧ c ≤ 9223372036854775807) (hb : -9223372036854775807 ≤ b ∧ b ≤ 9223372036854775807) (h : 0 ≤ c + b ∧ c + b ≤ 9223372036854775807) : movOf c b 1 = (c + b, true) := by
  unfold movOf
  by_cases h0 : 0 ≤ b
  · rw [if_pos h0, mulOf_yes h0 (by decide) (by omega), Int.mul_one]
    simp only [cond_true]
    rw [addOf_yes hc.1 h0 h.2]
  · have e : negW b = -b := by unfold negW; rw [if_neg (by omega)]
    rw [if_neg h0, e, mulOf_yes (by omega) (by decide) (by omega), Int.mul_one]
    simp only [cond_true]
    rw [if_pos (by omega)]
    rw [show c - -b = c + b by omega]
set_option maxRecDepth 100000 in
theorem add1 {L : Cn} (hg : GoodC L) {p : Int × Int} {b : Int} (hb : -9223372036854775807 ≤ b ∧ b ≤ 9223372036854775807) (h : 0 ≤ getC L p + b ∧ getC L p + b ≤ 9223372036854775807) : addC L p b 1 = (setC L p (getC L p + b), 0) := by
  unfold addC
  rw [if_neg (by decide), mov1 (hg.get p) hb h]
  rfl
set_option maxRecDepth 100000 in
theorem runC_append {t : Int} : ∀ {A B : List Chg} {L M : Cn}, runC t L A = (M, 0) → runC t L (A ++ B) = runC t M B
  | [], B, L, M, h => by simp only [runC, Prod.mk.injEq] at h; rw [h.1]; rfl
  | x :: r, B, L, M, h => by
    rw [runC] at h
    rw [List.cons_append, runC]
    split at h
    · rename_i h0
      rw [if_pos h0]
      exact runC_append h
    · rename_i h0
      simp only [Prod.mk.injEq] at h
      exact absurd h.2 h0
set_option maxRecDepth 100000 in
/-- Changes of distinct pairs, all within. -/
theorem runC_each : ∀ {X : List Chg} {L : Cn}, GoodC L → X.Pairwise (fun x y => x.1 ≠ y.1) → (∀ x ∈ X, FitsPr x.1 ∧ (-9223372036854775807 ≤ x.2 ∧ x.2 ≤ 9223372036854775807) ∧ 0 ≤ getC L x.1 + x.2 ∧ getC L x.1 + x.2 ≤ 9223372036854775807) →
    ∃ M, runC 1 L X = (M, 0) ∧ GoodC M ∧ (∀ x ∈ X, getC M x.1 = getC L x.1 + x.2) ∧ ∀ q, (∀ x ∈ X, x.1 ≠ q) → getC M q = getC L q
  | [], L, hg, _, _ => ⟨L, rfl, hg, fun x hx => by simp at hx, fun _ _ => rfl⟩
  | x :: r, L, hg, hd, hf => by
    obtain ⟨f1, f2, f3⟩ := hf x (List.mem_cons_self ..)
    rw [List.pairwise_cons] at hd
    have ha := add1 hg f2 f3
    have hg1 : GoodC (setC L x.1 (getC L x.1 + x.2)) := hg.set f1 f3
    have hget : ∀ q, q ≠ x.1 → getC (setC L x.1 (getC L x.1 + x.2)) q = getC L q := fun q hq => by rw [get_set hg.ris, if_neg hq]
    obtain ⟨M, m1, m2, m3, m4⟩ := runC_each (L := setC L x.1 (getC L x.1 + x.2)) hg1 hd.2 (fun y hy => by
      rw [hget y.1 (fun e => hd.1 y hy e.symm)]
      exact hf y (List.mem_cons_of_mem _ hy))
    refine ⟨M, by rw [runC_ok ha]; exact m1, m2, fun y hy => ?_, fun q hq => ?_⟩
    · rcases List.mem_cons.1 hy with rfl | hy
      · rw [m4 y.1 (fun z hz e => hd.1 z hz e.symm), get_set hg.ris, if_pos rfl]
      · rw [m3 y hy, hget y.1 (fun e => hd.1 y hy e.symm)]
    · rw [m4 q (fun z hz => hq z (List.mem_cons_of_mem _ hz)), hget q (fun e => hq x (List.mem_cons_self ..) e.symm)]
set_option maxRecDepth 100000 in
theorem ChangesOf.apart {f : Int × Int → Int} {X : List Chg} (h : ChangesOf f X) : X.Pairwise fun x y => x.1 ≠ y.1 := h.1.imp fun {a b} (hab : pb a.1 b.1) (e : a.1 = b.1) => pb_irrefl b.1 (by rw [e] at hab; exact hab)
set_option maxRecDepth 100000 in
theorem ChangesOf.is {f : Int × Int → Int} {X : List Chg} (h : ChangesOf f X) {x : Chg} (hx : x ∈ X) : FitsPr x.1 ∧ f x.1 = x.2 ∧ x.2 ≠ 0 := (h.2 x.1 x.2).1 hx
set_option maxRecDepth 100000 in
theorem ChangesOf.none {f : Int × Int → Int} {X : List Chg} (h : ChangesOf f X) {q : Int × Int} (hq : f q ≠ 0 → FitsPr q) (hn : ∀ x ∈ X, x.1 ≠ q) : f q = 0 := Classical.byContradiction fun e => hn (q, f q) ((h.2 q (f q)).2 ⟨hq e, rfl, e⟩) rfl
set_option maxRecDepth 100000 in
/-- A word's changes, so many times. -/
theorem runC_chg {f : Int × Int → Int} {X : List Chg} {L : Cn} {t : Int} (hX : ChangesOf f X) (hq : ∀ q, f q ≠ 0 → FitsPr q) (hg : GoodC L) (hb : ∀ q, (-9223372036854775807 ≤ f q * t ∧ f q * t ≤ 9223372036854775807) ∧ 0 ≤ getC L q + f q * t ∧ getC L q + f q * t ≤ 9223372036854775807) :
    ∃ M, runC 1 L (scaleC t X) = (M, 0) ∧ GoodC M ∧ ∀ q, getC M q = getC L q + f q * t := by
  have hm : ∀ x ∈ scaleC t X, ∃ y ∈ X, x = (y.1, y.2 * t) := fun x hx => by
    obtain ⟨y, hy, rfl⟩ := List.mem_map.1 hx
    exact ⟨y, hy, rfl⟩
  obtain ⟨M, m1, m2, m3, m4⟩ := runC_each (X := scaleC t X) hg (List.pairwise_map.2 (hX.apart.imp fun {a b} h => h)) (fun x hx => by
    obtain ⟨y, hy, rfl⟩ := hm x hx
    obtain ⟨y1, y2, _⟩ := hX.is hy
    have := hb y.1
    rw [y2] at this
    exact ⟨y1, this⟩)
  refine ⟨M, m1, m2, fun q => ?_⟩
  by_cases e : ∃ x ∈ X, x.1 = q
  · obtain ⟨x, hx, rfl⟩ := e
    rw [m3 _ (List.mem_map.2 ⟨x, hx, rfl⟩), (hX.is hx).2.1]
  · have h0 := hX.none (hq q) fun x hx k => e ⟨x, hx, k⟩
    rw [m4 q (fun x hx k => by obtain ⟨y, hy, rfl⟩ := hm x hx; exact e ⟨y, hy, k⟩), h0]
    omega
set_option maxRecDepth 100000 in
/-- The changed pairs are just those whose counts are others. -/
theorem chgset_iff {L M : Cn} {X : List Chg} {Y : List (Int × Int)} (h : ChgSet L M X Y) (ho : ∀ q, (∀ x ∈ X, x.1 ≠ q) → getC M q = getC L q) (q : Int × Int) : q ∈ Y ↔ getC M q ≠ getC L q := by
  rw [h.2]
  exact ⟨fun k => k.2, fun k => ⟨Classical.byContradiction fun e => k (ho q fun x hx hq => e ⟨x, hx, hq⟩), k⟩⟩
set_option maxRecDepth 100000 in
theorem runC_out {q : Int × Int} : ∀ {X : List Chg} {L M : Cn}, GoodC L → (∀ x ∈ X, FitsPr x.1) → runC 1 L X = (M, 0) → (∀ x ∈ X, x.1 ≠ q) → getC M q = getC L q
  | [], L, M, _, _, h, _ => by simp only [runC, Prod.mk.injEq] at h; rw [h.1]
  | x :: r, L, M, hg, hf, h, hn => by
    rw [runC] at h
    split at h
    · rw [runC_out (hg.add (hf x (List.mem_cons_self ..)) _ _) (fun y hy => hf y (List.mem_cons_of_mem _ hy)) h (fun y hy => hn y (List.mem_cons_of_mem _ hy)), add_other hg.ris _ _ _ fun e => hn x (List.mem_cons_self ..) e.symm]
    · rename_i h0
      simp only [Prod.mk.injEq] at h
      exact absurd h.2 h0
/-! The keys of counts. -/
set_option maxRecDepth 100000 in
theorem len_sub {α : Type} [BEq α] [LawfulBEq α] : ∀ {A B : List α}, A.Nodup → (∀ a ∈ A, a ∈ B) → A.length ≤ B.length
  | [], _, _, _ => Nat.zero_le _
  | a :: A, B, hn, hs => by
    rw [List.nodup_cons] at hn
    have ha := hs a (List.mem_cons_self ..)
    have h1 := len_sub (B := B.erase a) hn.2 fun x hx => (List.mem_erase_of_ne fun e : x = a => hn.1 (by rw [← e]; exact hx)).2 (hs x (List.mem_cons_of_mem _ hx))
    have h2 := List.length_erase_of_mem ha
    have h3 := List.length_pos_of_mem ha
    simp only [List.length_cons]; omega
set_option maxRecDepth 100000 in
theorem keys_nodup {L : Cn} (h : RisC L) : (keysC L).Nodup := by
  exact (ris_keys h).imp fun {a b} (hab : pb a b) (e : a = b) => pb_irrefl b (by rw [e] at hab; exact hab)
set_option maxRecDepth 100000 in
theorem keys_get {L : Cn} (h : GoodC L) {q : Int × Int} : q ∈ keysC L ↔ 0 < getC L q := by
  constructor
  · intro hq
    obtain ⟨x, hx, rfl⟩ := List.mem_map.1 hq
    rw [get_mem h.ris (p := x.1) (c := x.2) hx]
    exact (h.fits x hx).2.1
  · intro hp
    cases e : inC L q with
    | true => exact List.mem_map.2 ⟨_, get_in e, rfl⟩
    | false => rw [get_out e] at hp; omega
set_option maxRecDepth 100000 in
theorem adjW_len {ws : List Wd} : ((adjW ws).length : Int) ≤ lenW ws := by
  induction ws with
  | nil => simp [adjW, lenW, sumW]
  | cons x r ih =>
    have e : adjW (x :: r) = adj x.1 ++ adjW r := rfl
    have e2 : lenW (x :: r) = (x.1.length : Int) + lenW r := rfl
    rw [e, e2, List.length_append, adj_len]; omega
set_option maxRecDepth 100000 in
theorem keys_adj {L : Cn} {ws : List Wd} (hg : GoodC L) (hp : ∀ x ∈ ws, 1 ≤ x.2) (ht : ∀ q, getC L q = totW ws q) {q : Int × Int} : q ∈ keysC L ↔ q ∈ adjW ws := by
  rw [keys_get hg, ht, tot_pos hp]
  constructor
  · rintro ⟨x, hx, hc⟩; exact List.mem_flatMap.2 ⟨x, hx, xcnt_adj (by omega)⟩
  · intro h
    obtain ⟨x, hx, hc⟩ := List.mem_flatMap.1 h
    exact ⟨x, hx, adj_cnt hc⟩
set_option maxRecDepth 100000 in
theorem cn_len {L : Cn} {ws : List Wd} (hg : GoodC L) (hp : ∀ x ∈ ws, 1 ≤ x.2) (ht : ∀ q, getC L q = totW ws q) : (L.length : Int) ≤ lenW ws := by
  have h1 := len_sub (keys_nodup hg.ris) fun q hq => (keys_adj hg hp ht).1 hq
  have h2 := adjW_len (ws := ws)
  have h3 : (keysC L).length = L.length := by simp [keysC]
  omega
end Go.Proofs.YtnmacalbbmeedaaGreat
