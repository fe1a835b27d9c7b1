/- Texts in one: IxQ. -/
import Derived.Test.YtnmacalbbmeedaaGreatQ20
/- An index's plain lists: what holds of them, a word more, a pair merged. -/
namespace Go.Proofs.YtnmacalbbmeedaaGreat
open Go.RowKit Go.Maps

set_option maxRecDepth 100000 in
theorem noteF_yes {z : Int} {q : Int × Int} : ∀ {X : List Chg} (f : Int × Int → List Int), X.Pairwise (fun x y => x.1 ≠ y.1) → (∃ x ∈ X, x.1 = q ∧ 0 < x.2) → noteF z f X q = f q ++ [z]
  | [], _, _, h => by obtain ⟨x, hx, _⟩ := h; simp at hx
  | x :: r, f, hd, h => by
    rw [List.pairwise_cons] at hd
    have e : noteF z f (x :: r) = noteF z (if 0 < x.2 then upd f x.1 (f x.1 ++ [z]) else f) r := rfl
    rw [e]
    obtain ⟨y, hy, hq, hp⟩ := h
    rcases List.mem_cons.1 hy with rfl | hy
    · rw [if_pos hp, noteF_out z r _ (fun w hw k => hd.1 w hw (by rw [k, hq])), ← hq, upd_same]
    · rw [noteF_yes _ hd.2 ⟨y, hy, hq, hp⟩]
      congr 1
      split
      · exact upd_other _ _ _ fun k => hd.1 y hy (by rw [← k, hq])
      · rfl
set_option maxRecDepth 100000 in
theorem noteF_no {z : Int} {q : Int × Int} : ∀ {X : List Chg} (f : Int × Int → List Int), (∀ x ∈ X, x.1 = q → ¬ 0 < x.2) → noteF z f X q = f q
  | [], _, _ => rfl
  | x :: r, f, h => by
    have e : noteF z f (x :: r) = noteF z (if 0 < x.2 then upd f x.1 (f x.1 ++ [z]) else f) r := rfl
    rw [e, noteF_no _ fun y hy => h y (List.mem_cons_of_mem _ hy)]
    split
    · rename_i h0
      exact upd_other _ _ _ fun k => h x (List.mem_cons_self ..) k.symm h0
    · rfl
set_option maxRecDepth 100000 in
theorem noteF_is {z : Int} {f : Int × Int → List Int} {g : Int × Int → Int} {X : List Chg} (h : ChangesOf g X) (q : Int × Int) (hq : g q ≠ 0 → FitsPr q) : noteF z f X q = if 0 < g q then f q ++ [z] else f q := by
  by_cases h0 : 0 < g q
  · rw [if_pos h0]
    exact noteF_yes f h.apart ⟨(q, g q), (h.2 q (g q)).2 ⟨hq (by omega), rfl, by omega⟩, rfl, h0⟩
  · rw [if_neg h0]
    refine noteF_no f fun x hx e hp => h0 ?_
    rw [← e, (h.is hx).2.1]; exact hp
/-- What holds of an index whose symbols are below s; had: who had which pair at any time. -/
structure GoodM (M : Mdl) (s : Int) (had : Int × Int → Int → Prop) : Prop where
  sb : 256 ≤ s ∧ s ≤ 1000000
  pos : ∀ x ∈ M.ws, 1 ≤ x.2
  wt : wtW M.ws ≤ 9223372036854775807
  syms : ∀ x ∈ M.ws, ∀ y ∈ x.1, 0 ≤ y ∧ y < s
  cnt : GoodC M.cnt
  tells : ∀ q, getC M.cnt q = totW M.ws q
  rise : ∀ q, (M.pl q).Pairwise (· < ·)
  inw : ∀ q, ∀ z ∈ M.pl q, 0 ≤ z ∧ z < (M.ws.length : Int)
  has : ∀ q (j : Nat) X t, M.ws[j]? = some (X, t) → 0 < cntP X q → (j : Int) ∈ M.pl q
  new : ∀ q, M.pl q ≠ [] → (0 ≤ q.1 ∧ q.1 < s) ∧ (0 ≤ q.2 ∧ q.2 < s)
  was : ∀ q, ∀ z ∈ M.pl q, had q z
set_option maxRecDepth 100000 in
theorem xfits_small {q : Int × Int} {s : Int} (h : (0 ≤ q.1 ∧ q.1 < s) ∧ (0 ≤ q.2 ∧ q.2 < s)) (hs : s ≤ 1000001) : FitsPr q := by unfold FitsPr; omega
set_option maxRecDepth 100000 in
theorem small_cnt {X : List Int} {s : Int} (h : ∀ y ∈ X, 0 ≤ y ∧ y < s) {q : Int × Int} (hc : cntP X q ≠ 0) : (0 ≤ q.1 ∧ q.1 < s) ∧ (0 ≤ q.2 ∧ q.2 < s) := ⟨h _ (cnt_mem hc).1, h _ (cnt_mem hc).2⟩
set_option maxRecDepth 100000 in
theorem mul_bound {t n c : Int} (ht : 0 ≤ t) (h : c ≤ n) : c * t ≤ t * n := by rw [Int.mul_comm]; exact Int.mul_le_mul_of_nonneg_left h ht
set_option maxRecDepth 100000 in
theorem wt_mem {ws : List Wd} (h : ∀ x ∈ ws, 1 ≤ x.2) {x : Wd} (hx : x ∈ ws) : x.2 * ((x.1.length - 1 : Nat) : Int) ≤ wtW ws :=
  sumW_mem (g := fun x => x.2 * ((x.1.length - 1 : Nat) : Int)) (fun y hy => mulz (by have := h y hy; omega) (by omega)) hx
set_option maxRecDepth 100000 in
theorem GoodM.start {M : Mdl} (h1 : M.ws = []) (h2 : M.cnt = []) (h3 : ∀ q, M.pl q = []) : GoodM M 256 (fun _ _ => False) := by
  refine ⟨by decide, by rw [h1]; simp, by rw [h1]; simp [wtW, sumW], by rw [h1]; simp, by rw [h2]; exact GoodC.nil, by rw [h1, h2]; intro q; rfl, fun q => by rw [h3]; exact List.Pairwise.nil, fun q z hz => by rw [h3] at hz; simp at hz, fun q j X t hj => by rw [h1] at hj; simp at hj, fun q hq => absurd (h3 q) hq, fun q z hz => by rw [h3] at hz; simp at hz⟩
set_option maxRecDepth 100000 in
theorem pair_snoc {L : List Int} {z : Int} (h : L.Pairwise (· < ·)) (hz : ∀ y ∈ L, y < z) : (L ++ [z]).Pairwise (· < ·) := by
  rw [List.pairwise_append]
  exact ⟨h, List.pairwise_singleton _ _, fun a ha b hb => by rw [List.mem_singleton] at hb; subst hb; exact hz a ha⟩
set_option maxRecDepth 100000 in
/-- One word more. -/
theorem GoodM.grow {M : Mdl} {s : Int} {had : Int × Int → Int → Prop} (h : GoodM M s had) {X : List Int} {t : Int} {C : List Chg} (hX : ∀ y ∈ X, 0 ≤ y ∧ y < s) (ht : 1 ≤ t) (hw : wtW (M.ws ++ [(X, t)]) ≤ 9223372036854775807) (hC : ChangesOf (cntP X) C) :
    ∃ L', runC 1 M.cnt (scaleC t C) = (L', 0) ∧ GoodM { M with ws := M.ws ++ [(X, t)], pl := noteF M.ws.length M.pl C, cnt := L' } s (fun q z => had q z ∨ (z = (M.ws.length : Int) ∧ 0 < cntP X q)) := by
  have hp : ∀ x ∈ M.ws ++ [(X, t)], 1 ≤ x.2 := fun x hx => by
    rcases List.mem_append.1 hx with hx | hx
    · exact h.pos x hx
    · rw [List.mem_singleton] at hx; subst hx; exact ht
  have htot : ∀ q, totW (M.ws ++ [(X, t)]) q = totW M.ws q + t * cntP X q := fun q => by unfold totW; rw [sumW_app]; simp [sumW]
  have hfit : ∀ q, cntP X q ≠ 0 → FitsPr q := fun q hq => xfits_small (small_cnt hX hq) (by have := h.sb; omega)
  have hb : ∀ q, (-9223372036854775807 ≤ cntP X q * t ∧ cntP X q * t ≤ 9223372036854775807) ∧ 0 ≤ getC M.cnt q + cntP X q * t ∧ getC M.cnt q + cntP X q * t ≤ 9223372036854775807 := fun q => by
    have h1 := tot_le (fun x hx => (by have := hp x hx; omega : 0 ≤ x.2)) q
    have h2 := tot_nonneg (ws := M.ws) (fun x hx => (by have := h.pos x hx; omega : 0 ≤ x.2)) q
    have h3 := mulz (a := t) (by omega) (cnt_nonneg X q)
    rw [htot] at h1
    rw [h.tells, Int.mul_comm]
    omega
  obtain ⟨L', l1, l2, l3⟩ := runC_chg hC hfit h.cnt hb
  have hno : ∀ q, noteF M.ws.length M.pl C q = if 0 < cntP X q then M.pl q ++ [(M.ws.length : Int)] else M.pl q := fun q => noteF_is hC q (hfit q)
  refine ⟨L', l1, h.sb, hp, hw, fun x hx => ?_, l2, fun q => ?_, fun q => ?_, fun q z hz => ?_, fun q j X2 t2 hj hc => ?_, fun q hq => ?_, fun q z hz => ?_⟩
  · rcases List.mem_append.1 hx with hx | hx
    · exact h.syms x hx
    · rw [List.mem_singleton] at hx; subst hx; exact hX
  · show getC L' q = totW (M.ws ++ [(X, t)]) q
    rw [l3, h.tells, htot, Int.mul_comm]
  · show (noteF M.ws.length M.pl C q).Pairwise (· < ·)
    rw [hno]
    split
    · exact pair_snoc (h.rise q) fun y hy => (h.inw q y hy).2
    · exact h.rise q
  · have hz' : z ∈ noteF M.ws.length M.pl C q := hz
    rw [hno] at hz'
    simp only [List.length_append, List.length_singleton]
    split at hz'
    · rcases List.mem_append.1 hz' with k | k
      · have := h.inw q z k; omega
      · rw [List.mem_singleton] at k; omega
    · have := h.inw q z hz'; omega
  · show (j : Int) ∈ noteF M.ws.length M.pl C q
    rw [hno]
    have hj' : (M.ws ++ [(X, t)])[j]? = some (X2, t2) := hj
    rw [List.getElem?_append] at hj'
    split at hj'
    · have := h.has q j X2 t2 hj' hc
      split
      · exact List.mem_append_left _ this
      · exact this
    · rename_i hlt
      have hz : j - M.ws.length = 0 := by
        have := (List.getElem?_eq_some_iff.1 hj').1
        simp at this; omega
      rw [hz] at hj'
      simp only [List.getElem?_cons_zero, Option.some.injEq, Prod.mk.injEq] at hj'
      obtain ⟨rfl, rfl⟩ := hj'
      rw [if_pos hc]
      have : j = M.ws.length := by omega
      subst this
      simp
  · have hq' : noteF M.ws.length M.pl C q ≠ [] := hq
    rw [hno] at hq'
    split at hq'
    · rename_i h0; exact small_cnt hX (by omega)
    · exact h.new q hq'
  · have hz' : z ∈ noteF M.ws.length M.pl C q := hz
    rw [hno] at hz'
    split at hz'
    · rename_i h0
      rcases List.mem_append.1 hz' with k | k
      · exact .inl (h.was q z k)
      · rw [List.mem_singleton] at k; exact .inr ⟨k, h0⟩
    · exact .inl (h.was q z hz')
set_option maxRecDepth 100000 in
/-- A row of places is no longer than there are words. -/
theorem rise_len {n : Nat} : ∀ {L : List Int}, L.Pairwise (· < ·) → (∀ z ∈ L, 0 ≤ z ∧ z < (n : Int)) → L.length ≤ n := by
  intro L h k
  have h1 := len_sub (A := L.map Int.toNat) (B := List.range n) (by
    rw [List.nodup_iff_pairwise_ne, List.pairwise_map]
    refine List.Pairwise.imp_of_mem ?_ h
    intro a b ha hb hab
    have := k a ha; have := k b hb
    omega) (fun a ha => by
    obtain ⟨z, hz, rfl⟩ := List.mem_map.1 ha
    have := k z hz
    rw [List.mem_range]; omega)
  simpa using h1
set_option maxRecDepth 100000 in
theorem GoodM.plen {M : Mdl} {s : Int} {had : Int × Int → Int → Prop} (h : GoodM M s had) (q : Int × Int) : (M.pl q).length ≤ M.ws.length := rise_len (h.rise q) (h.inw q)
/-! A pair merged. -/
set_option maxRecDepth 100000 in
theorem cnt_tail (x : Int) (Z : List Int) (q : Int × Int) : cntP Z q ≤ cntP (x :: Z) q := by
  cases Z with
  | nil => simp [cntP]
  | cons y r => rw [cntP]; split <;> omega
set_option maxRecDepth 100000 in
theorem cnt_other {s : Int} {q : Int × Int} (h : q.1 ≠ s) (Z : List Int) : cntP (s :: Z) q = cntP Z q := by
  cases Z with
  | nil => rfl
  | cons y r => rw [cntP, if_neg fun e : (s, y) = q => h (by rw [← e])]; omega
set_option maxRecDepth 100000 in
/-- What doesn't have the new symbol is there no more often. -/
theorem merge_cnt {p : Int × Int} {s : Int} {q : Int × Int} (h1 : q.1 ≠ s) (h2 : q.2 ≠ s) : ∀ X : List Int, cntP (mergeL p s X) q ≤ cntP X q
  | [] => Int.le_refl _
  | [_] => Int.le_refl _
  | x :: y :: r => by
    rw [mergeL]
    split
    · rw [cnt_other h1]
      have a := merge_cnt (p := p) h1 h2 r
      have b := cnt_tail y r q
      have c := cnt_tail x (y :: r) q
      omega
    · have ih := merge_cnt (p := p) h1 h2 (y :: r)
      obtain ⟨Z, e | e⟩ := mergeL_head p s y r
      · rw [e] at ih ⊢
        rw [cntP, cntP]; omega
      · rw [e] at ih ⊢
        rw [cntP, if_neg fun k : (x, s) = q => h2 (by rw [← k]), cntP]
        split <;> omega
set_option maxRecDepth 100000 in
theorem merge_syms {p : Int × Int} {s : Int} {X : List Int} (h : ∀ y ∈ X, 0 ≤ y ∧ y < s) (hs : 0 ≤ s) : ∀ y ∈ mergeL p s X, 0 ≤ y ∧ y < s + 1 := fun y hy => by
  rcases mergeL_mem hy with k | k
  · have := h y k; omega
  · omega
set_option maxRecDepth 100000 in
theorem no_sym {X : List Int} {s : Int} (h : ∀ y ∈ X, 0 ≤ y ∧ y < s) {q : Int × Int} (hq : q.1 = s ∨ q.2 = s) : cntP X q = 0 := Classical.byContradiction fun e => by
  have := small_cnt h e
  omega
/-- So far: the first k places are done. -/
structure MgInv (M0 M : Mdl) (p : Int × Int) (s : Int) (k : Nat) (F : List Chg) (L : Cn) (T : Int) : Prop where
  len : M.ws.length = M0.ws.length
  ws : ∀ (j : Nat) X t, M0.ws[j]? = some (X, t) → M.ws[j]? = some (if (j : Int) ∈ (M0.pl p).take k then mergeL p s X else X, t)
  cnt : M.cnt = M0.cnt
  pos : M.pos = M0.pos
  tou : M.tou = M0.tou + (k : Int)
  run : runC 1 M0.cnt F = (L, 0)
  good : GoodC L
  tells : ∀ q, getC L q = totW M.ws q
  fitF : ∀ x ∈ F, FitsCh x
  lenF : F.length ≤ 3000 * k
  old : ∀ q, q.1 ≠ s → q.2 ≠ s → M.pl q = M0.pl q
  new : ∀ q, (q.1 = s ∨ q.2 = s) → (M.pl q).Pairwise (· < ·) ∧ ∀ z, z ∈ M.pl q ↔ z ∈ (M0.pl p).take k ∧ ∃ (j : Nat) (X : List Int) (t : Int), z = (j : Int) ∧ M.ws[j]? = some (X, t) ∧ 0 < cntP X q
  sum : T + lenW M.ws = lenW M0.ws
  wt : wtW M.ws ≤ wtW M0.ws
set_option maxRecDepth 100000 in
theorem MgInv.start {M0 : Mdl} {p : Int × Int} {s : Int} {had : Int × Int → Int → Prop} (h : GoodM M0 s had) : MgInv M0 M0 p s 0 [] M0.cnt 0 := by
  refine ⟨rfl, fun j X t hj => by simpa using hj, rfl, rfl, by simp, rfl, h.cnt, h.tells, fun x hx => by simp at hx, by simp, fun _ _ _ => rfl, fun q hq => ?_, by omega, Int.le_refl _⟩
  have : M0.pl q = [] := Classical.byContradiction fun e => by have := h.new q e; omega
  rw [this]
  exact ⟨List.Pairwise.nil, fun z => by simp⟩
set_option maxRecDepth 100000 in
theorem MgInv.back {M0 M : Mdl} {p : Int × Int} {s : Int} {k : Nat} {F : List Chg} {L : Cn} {T : Int} (h : MgInv M0 M p s k F L T) {j : Nat} {X : List Int} {t : Int} (hj : M.ws[j]? = some (X, t)) : ∃ X0, M0.ws[j]? = some (X0, t) ∧ X = if (j : Int) ∈ (M0.pl p).take k then mergeL p s X0 else X0 := by
  have hlt := (List.getElem?_eq_some_iff.1 hj).1
  obtain ⟨X0, t0, e⟩ : ∃ X0 t0, M0.ws[j]? = some (X0, t0) := ⟨_, _, List.getElem?_eq_getElem (by rw [← h.len]; exact hlt)⟩
  have := h.ws j X0 t0 e
  rw [hj] at this
  simp only [Option.some.injEq, Prod.mk.injEq] at this
  exact ⟨X0, by rw [this.2]; exact e, this.1⟩
set_option maxRecDepth 100000 in
theorem MgInv.pos' {M0 M : Mdl} {p : Int × Int} {s : Int} {k : Nat} {F : List Chg} {L : Cn} {T : Int} {had : Int × Int → Int → Prop} (h : MgInv M0 M p s k F L T) (hg : GoodM M0 s had) : ∀ x ∈ M.ws, 1 ≤ x.2 ∧ ∀ y ∈ x.1, 0 ≤ y ∧ y < s + 1 := fun x hx => by
  obtain ⟨j, hj⟩ := List.mem_iff_getElem?.1 hx
  obtain ⟨X, t⟩ := x
  obtain ⟨X0, e, rfl⟩ := h.back hj
  have hm := List.mem_of_getElem? e
  refine ⟨hg.pos (X0, t) hm, fun y hy => ?_⟩
  simp only at hy
  have hs := hg.sb
  split at hy
  · exact merge_syms (hg.syms _ hm) (by omega) y hy
  · have := hg.syms _ hm y hy; omega
set_option maxRecDepth 100000 in
/-- The word at the next place: it isn't merged yet. -/
theorem MgInv.next_word {M0 M : Mdl} {p : Int × Int} {s : Int} {k : Nat} {F : List Chg} {L : Cn} {T : Int} {had : Int × Int → Int → Prop} (h : MgInv M0 M p s k F L T) (hg : GoodM M0 s had) (hk : k < (M0.pl p).length) :
    ∃ (j : Nat) (X : List Int) (t : Int), (M0.pl p)[k] = (j : Int) ∧ M.ws[j]? = some (X, t) ∧ M0.ws[j]? = some (X, t) ∧ 1 ≤ t ∧ ∀ y ∈ X, 0 ≤ y ∧ y < s := by
  have h1 := hg.inw p _ (List.getElem_mem hk)
  obtain ⟨j, hj⟩ : ∃ j : Nat, (M0.pl p)[k] = (j : Int) := ⟨((M0.pl p)[k]).toNat, by omega⟩
  have hjl : j < M0.ws.length := by omega
  obtain ⟨X, t, e⟩ : ∃ X t, M0.ws[j]? = some (X, t) := ⟨_, _, List.getElem?_eq_getElem hjl⟩
  have hn : ¬ (j : Int) ∈ (M0.pl p).take k := fun hm => by
    obtain ⟨i, hi, e2⟩ := List.mem_iff_getElem.1 hm
    rw [List.length_take] at hi
    rw [List.getElem_take] at e2
    have := List.pairwise_iff_getElem.1 (hg.rise p) i k (by omega) hk (by omega)
    omega
  have e3 := h.ws j X t e
  rw [if_neg hn] at e3
  have hm := List.mem_of_getElem? e
  exact ⟨j, X, t, hj, e3, e, hg.pos _ hm, hg.syms _ hm⟩
set_option maxRecDepth 100000 in
theorem MgInv.below {M0 M : Mdl} {p : Int × Int} {s : Int} {k : Nat} {F : List Chg} {L : Cn} {T : Int} {had : Int × Int → Int → Prop} (h : MgInv M0 M p s k F L T) (hg : GoodM M0 s had) (hk : k < (M0.pl p).length) {q : Int × Int} (hq : q.1 = s ∨ q.2 = s) : ∀ y ∈ M.pl q, y < (M0.pl p)[k] := fun y hy => by
  obtain ⟨hm, _⟩ := ((h.new q hq).2 y).1 hy
  obtain ⟨i, hi, e2⟩ := List.mem_iff_getElem.1 hm
  rw [List.length_take] at hi
  rw [List.getElem_take] at e2
  have := List.pairwise_iff_getElem.1 (hg.rise p) i k (by omega) hk (by omega)
  omega
set_option maxRecDepth 100000 in
theorem delta_new {p : Int × Int} {s : Int} {X : List Int} {q : Int × Int} (h : 0 < cntP (mergeL p s X) q - cntP X q) : q.1 = s ∨ q.2 = s := Classical.byContradiction fun e => by
  have := merge_cnt (p := p) (s := s) (q := q) (fun k => e (.inl k)) (fun k => e (.inr k)) X
  omega
set_option maxRecDepth 100000 in
theorem MgInv.next {M0 M : Mdl} {p : Int × Int} {s : Int} {k : Nat} {F : List Chg} {L : Cn} {T : Int} {had : Int × Int → Int → Prop} (h : MgInv M0 M p s k F L T) (hg : GoodM M0 s had) (hk : k < (M0.pl p).length) {j : Nat} {X : List Int} {t : Int} (hjk : (M0.pl p)[k] = (j : Int)) (hj : M.ws[j]? = some (X, t)) (hj0 : M0.ws[j]? = some (X, t)) (ht : 1 ≤ t) (hX : ∀ y ∈ X, 0 ≤ y ∧ y < s)
    {C : List Chg} (hC : ChangesOf (fun r => cntP (mergeL p s X) r - cntP X r) C) (hlC : C.length ≤ 3000) :
    (∀ x ∈ scaleC t C, FitsCh x) ∧ (∀ x ∈ C, 0 < x.2 → ∀ y ∈ M.pl x.1, y < (j : Int)) ∧
    ∃ L', MgInv M0 { M with ws := M.ws.set j (mergeL p s X, t), pl := noteF j M.pl C, tou := M.tou + 1 } p s (k + 1) (F ++ scaleC t C) L' (T + (timesL p X : Int)) := by
  have hs := hg.sb
  have hX' := merge_syms (p := p) hX (by omega)
  have hfit : ∀ q, (fun r => cntP (mergeL p s X) r - cntP X r) q ≠ 0 → FitsPr q := fun q hq => by
    simp only at hq
    by_cases e : cntP X q = 0
    · exact xfits_small (small_cnt hX' (by omega)) (by omega)
    · exact xfits_small (small_cnt hX e) (by omega)
  have hlen := pmerge_len (p := p) (s := s) X
  have hpos := h.pos' hg
  have hjm := List.mem_of_getElem? hj
  have hset : ∀ g : Wd → Int, sumW g (M.ws.set j (mergeL p s X, t)) = sumW g M.ws + (g (mergeL p s X, t) - g (X, t)) := fun g => sumW_set g _ hj
  have htot : ∀ q, totW (M.ws.set j (mergeL p s X, t)) q = totW M.ws q + (cntP (mergeL p s X) q - cntP X q) * t := fun q => by
    unfold totW; rw [hset]; simp only
    rw [Int.sub_mul, Int.mul_comm t, Int.mul_comm t]
  have hwt : wtW (M.ws.set j (mergeL p s X, t)) ≤ wtW M.ws := by
    unfold wtW; rw [hset]; simp only
    have : t * (((mergeL p s X).length - 1 : Nat) : Int) ≤ t * ((X.length - 1 : Nat) : Int) := Int.mul_le_mul_of_nonneg_left (by omega) (by omega)
    omega
  have hp' : ∀ x ∈ M.ws.set j (mergeL p s X, t), 0 ≤ x.2 := fun x hx => by
    rcases List.mem_or_eq_of_mem_set hx with hx | rfl
    · have := hpos x hx; omega
    · simp only; omega
  have hwX : t * ((X.length - 1 : Nat) : Int) ≤ 9223372036854775807 := by
    have h1 := wt_mem (fun x hx => (hpos x hx).1) hjm
    have h2 := h.wt; have h3 := hg.wt
    simp only at h1
    omega
  have hdel : ∀ q, -9223372036854775807 ≤ (cntP (mergeL p s X) q - cntP X q) * t ∧ (cntP (mergeL p s X) q - cntP X q) * t ≤ 9223372036854775807 := fun q => by
    have a1 := cnt_le1 X q; have a2 := cnt_le1 (mergeL p s X) q; have a3 := cnt_nonneg X q; have a4 := cnt_nonneg (mergeL p s X) q
    have b1 := mul_bound (t := t) (by omega) (show cntP (mergeL p s X) q - cntP X q ≤ ((X.length - 1 : Nat) : Int) by omega)
    have b2 := mul_bound (t := t) (by omega) (show -(cntP (mergeL p s X) q - cntP X q) ≤ ((X.length - 1 : Nat) : Int) by omega)
    rw [Int.neg_mul] at b2
    omega
  have hb : ∀ q, (-9223372036854775807 ≤ (fun r => cntP (mergeL p s X) r - cntP X r) q * t ∧ (fun r => cntP (mergeL p s X) r - cntP X r) q * t ≤ 9223372036854775807) ∧ 0 ≤ getC L q + (fun r => cntP (mergeL p s X) r - cntP X r) q * t ∧ getC L q + (fun r => cntP (mergeL p s X) r - cntP X r) q * t ≤ 9223372036854775807 := fun q => by
    refine ⟨hdel q, ?_⟩
    have h1 := tot_le hp' q
    have h2 := tot_nonneg hp' q
    rw [htot] at h1 h2
    have h3 := h.wt; have h4 := hg.wt
    simp only
    rw [h.tells]
    omega
  obtain ⟨L', l1, l2, l3⟩ := runC_chg hC hfit h.good hb
  have hno : ∀ q, noteF j M.pl C q = if 0 < cntP (mergeL p s X) q - cntP X q then M.pl q ++ [(j : Int)] else M.pl q := fun q => noteF_is hC q (hfit q)
  have hbel : ∀ q, 0 < cntP (mergeL p s X) q - cntP X q → ∀ y ∈ M.pl q, y < (j : Int) := fun q hq y hy => by rw [← hjk]; exact h.below hg hk (delta_new hq) y hy
  have htk : (M0.pl p).take (k + 1) = (M0.pl p).take k ++ [(j : Int)] := by rw [List.take_succ_eq_append_getElem hk, hjk]
  have hsc : ∀ x ∈ scaleC t C, FitsCh x := fun x hx => by
    obtain ⟨y, hy, rfl⟩ := List.mem_map.1 hx
    obtain ⟨y1, y2, _⟩ := hC.is hy
    refine ⟨y1, ?_⟩
    have := hdel y.1
    unfold FitsZ
    simp only at y2 ⊢
    rw [← y2]; omega
  have hjl : j < M.ws.length := (List.getElem?_eq_some_iff.1 hj).1
  refine ⟨hsc, fun x hx hx0 y hy => hbel x.1 (by have := (hC.is hx).2.1; omega) y hy, L', by simpa using h.len, fun i X2 t2 hi => ?_, h.cnt, h.pos, by have := h.tou; simp only; omega, by rw [runC_append h.run]; exact l1, l2, fun q => ?_, fun x hx => ?_, ?_, fun q h1 h2 => ?_, fun q hq => ?_, ?_, Int.le_trans hwt h.wt⟩
  · have e1 := h.ws i X2 t2 hi
    show (M.ws.set j (mergeL p s X, t))[i]? = _
    rw [htk, List.getElem?_set]
    by_cases e : j = i
    · subst e
      rw [hj0] at hi
      simp only [Option.some.injEq, Prod.mk.injEq] at hi
      obtain ⟨rfl, rfl⟩ := hi
      rw [if_pos rfl, if_pos hjl, if_pos (by simp)]
    · rw [if_neg e, e1]
      have : (i : Int) ∈ (M0.pl p).take k ++ [(j : Int)] ↔ (i : Int) ∈ (M0.pl p).take k := by
        rw [List.mem_append, List.mem_singleton]
        exact ⟨fun k => k.resolve_right (by omega), .inl⟩
      simp only [this]
  · show getC L' q = totW (M.ws.set j (mergeL p s X, t)) q
    rw [l3, h.tells, htot]
  · rcases List.mem_append.1 hx with hx | hx
    · exact h.fitF x hx
    · exact hsc x hx
  · rw [List.length_append, scale_len]; have := h.lenF; omega
  · show noteF j M.pl C q = M0.pl q
    rw [hno, if_neg (fun k => by rcases delta_new k with e | e <;> contradiction)]
    exact h.old q h1 h2
  · show (noteF j M.pl C q).Pairwise (· < ·) ∧ ∀ z, z ∈ noteF j M.pl C q ↔ _
    have h0 := no_sym hX hq
    obtain ⟨n1, n2⟩ := h.new q hq
    rw [hno, h0]
    have hother : ∀ z, z ≠ (j : Int) → ((∃ (i : Nat) (X2 : List Int) (t2 : Int), z = (i : Int) ∧ M.ws[i]? = some (X2, t2) ∧ 0 < cntP X2 q) ↔ ∃ (i : Nat) (X2 : List Int) (t2 : Int), z = (i : Int) ∧ (M.ws.set j (mergeL p s X, t))[i]? = some (X2, t2) ∧ 0 < cntP X2 q) := fun z hz => by
      constructor
      · rintro ⟨i, X2, t2, rfl, a, b⟩
        exact ⟨i, X2, t2, rfl, by rw [List.getElem?_set, if_neg (by omega)]; exact a, b⟩
      · rintro ⟨i, X2, t2, rfl, a, b⟩
        rw [List.getElem?_set, if_neg (by omega)] at a
        exact ⟨i, X2, t2, rfl, a, b⟩
    have hself : (∃ (i : Nat) (X2 : List Int) (t2 : Int), (j : Int) = (i : Int) ∧ (M.ws.set j (mergeL p s X, t))[i]? = some (X2, t2) ∧ 0 < cntP X2 q) ↔ 0 < cntP (mergeL p s X) q := by
      constructor
      · rintro ⟨i, X2, t2, e, a, b⟩
        obtain rfl : j = i := by omega
        rw [List.getElem?_set, if_pos rfl, if_pos hjl] at a
        simp only [Option.some.injEq, Prod.mk.injEq] at a
        rw [a.1]; exact b
      · intro b
        exact ⟨j, _, _, rfl, by rw [List.getElem?_set, if_pos rfl, if_pos hjl], b⟩
    have hnj : (j : Int) ∉ M.pl q := fun hm => by have := h.below hg hk hq _ hm; omega
    have hnt : (j : Int) ∉ (M0.pl p).take k := fun hm => by
      obtain ⟨i, hi, e2⟩ := List.mem_iff_getElem.1 hm
      rw [List.length_take] at hi
      rw [List.getElem_take] at e2
      have := List.pairwise_iff_getElem.1 (hg.rise p) i k (by omega) hk (by omega)
      omega
    rw [htk]
    split
    · rename_i hc
      refine ⟨pair_snoc n1 fun y hy => by rw [← hjk]; exact h.below hg hk hq y hy, fun z => ?_⟩
      by_cases e : z = (j : Int)
      · subst e
        rw [hself]
        simp; omega
      · rw [← hother z e, List.mem_append, List.mem_append, n2]
        simp [e]
    · rename_i hc
      refine ⟨n1, fun z => ?_⟩
      by_cases e : z = (j : Int)
      · subst e
        rw [hself]
        exact ⟨fun k => absurd k hnj, fun k => absurd k.2 (by omega)⟩
      · rw [← hother z e, n2, List.mem_append]
        simp [e]
  · have e : lenW (M.ws.set j (mergeL p s X, t)) = lenW M.ws + (((mergeL p s X).length : Int) - (X.length : Int)) := by unfold lenW; rw [hset]
    have := h.sum
    simp only
    omega
def mergeWs (p : Int × Int) (s : Int) (ws : List Wd) : List Wd := ws.map fun x => (mergeL p s x.1, x.2)
set_option maxRecDepth 100000 in
theorem MgInv.words {M0 M : Mdl} {p : Int × Int} {s : Int} {F : List Chg} {L : Cn} {T : Int} {had : Int × Int → Int → Prop} (h : MgInv M0 M p s (M0.pl p).length F L T) (hg : GoodM M0 s had) : M.ws = mergeWs p s M0.ws := by
  refine List.ext_getElem? fun j => ?_
  unfold mergeWs
  rw [List.getElem?_map]
  cases e : M0.ws[j]? with
  | none =>
    rw [List.getElem?_eq_none_iff] at e
    rw [List.getElem?_eq_none (by rw [h.len]; exact e)]; rfl
  | some x =>
    obtain ⟨X, t⟩ := x
    rw [h.ws j X t e, List.take_length]
    simp only [Option.map_some, Option.some.injEq, Prod.mk.injEq, and_true]
    split
    · rfl
    · rename_i hn
      have h0 : timesL p X = 0 := times_cnt.2 (Classical.byContradiction fun k => hn (hg.has p j X t e (by have := cnt_nonneg X p; omega)))
      exact (merge_same h0).symm
set_option maxRecDepth 100000 in
theorem merged_gone {ws : List Wd} {p : Int × Int} {s : Int} (h : ∀ x ∈ ws, ∀ y ∈ x.1, 0 ≤ y ∧ y < s) : ∀ x ∈ mergeWs p s ws, cntP x.1 p = 0 := fun x hx => by
  obtain ⟨y, hy, rfl⟩ := List.mem_map.1 hx
  exact times_cnt.1 (gone_any fun z hz e => by have := h y hy z hz; omega)
set_option maxRecDepth 100000 in
/-- All is done: the index behind a merge. -/
theorem MgInv.done {M0 M : Mdl} {p : Int × Int} {s : Int} {F : List Chg} {L : Cn} {T : Int} {had : Int × Int → Int → Prop} (h : MgInv M0 M p s (M0.pl p).length F L T) (hg : GoodM M0 s had) (hs : s < 1000000) (x y : Int) :
    getC L p = 0 ∧ GoodM { ws := M.ws, cnt := L, pl := upd M.pl p [], pos := x, tou := y } (s + 1) (fun q z => had q z ∨ ∃ (j : Nat) (X : List Int) (t : Int), z = (j : Int) ∧ (mergeWs p s M0.ws)[j]? = some (X, t) ∧ 0 < cntP X q) := by
  have hw := h.words hg
  have hsb := hg.sb
  have hpos := h.pos' hg
  have hgone : ∀ x ∈ M.ws, cntP x.1 p = 0 := by rw [hw]; exact merged_gone hg.syms
  have h0 : getC L p = 0 := by
    have h1 := tot_pos (fun x hx => (hpos x hx).1) (q := p)
    have h2 := tot_nonneg (ws := M.ws) (fun x hx => (by have := (hpos x hx).1; omega : 0 ≤ x.2)) p
    rw [h.tells]
    refine Classical.byContradiction fun k => ?_
    obtain ⟨x, hx, hc⟩ := h1.1 (by omega)
    have := hgone x hx
    omega
  refine ⟨h0, by omega, fun x hx => (hpos x hx).1, Int.le_trans h.wt hg.wt, fun x hx => (hpos x hx).2, h.good, h.tells, fun q => ?_, fun q z hz => ?_, fun q j X t hj hc => ?_, fun q hq => ?_, fun q z hz => ?_⟩
  · show (upd M.pl p [] q).Pairwise (· < ·)
    unfold upd
    split
    · exact List.Pairwise.nil
    · by_cases hq : q.1 = s ∨ q.2 = s
      · exact (h.new q hq).1
      · rw [h.old q (fun e => hq (.inl e)) (fun e => hq (.inr e))]; exact hg.rise q
  · have hz' : z ∈ upd M.pl p [] q := hz
    unfold upd at hz'
    show 0 ≤ z ∧ z < (M.ws.length : Int)
    rw [h.len]
    split at hz'
    · simp at hz'
    · by_cases hq : q.1 = s ∨ q.2 = s
      · exact hg.inw p z (List.mem_of_mem_take (((h.new q hq).2 z).1 hz').1)
      · rw [h.old q (fun e => hq (.inl e)) (fun e => hq (.inr e))] at hz'; exact hg.inw q z hz'
  · show (j : Int) ∈ upd M.pl p [] q
    have hj' : M.ws[j]? = some (X, t) := hj
    have hne : q ≠ p := by rintro rfl; have := hgone _ (List.mem_of_getElem? hj'); simp only at this; omega
    rw [upd_other _ _ _ hne]
    obtain ⟨X0, e0, eX⟩ := h.back hj'
    have hm0 := List.mem_of_getElem? e0
    by_cases hq : q.1 = s ∨ q.2 = s
    · refine ((h.new q hq).2 j).2 ⟨?_, j, X, t, rfl, hj', hc⟩
      refine Classical.byContradiction fun k => ?_
      rw [if_neg k] at eX
      have := no_sym (hg.syms _ hm0) hq
      simp only at this
      rw [eX, this] at hc; omega
    · rw [h.old q (fun e => hq (.inl e)) (fun e => hq (.inr e))]
      refine hg.has q j X0 t e0 ?_
      split at eX
      · have := merge_cnt (p := p) (s := s) (q := q) (fun e => hq (.inl e)) (fun e => hq (.inr e)) X0
        rw [eX] at hc; omega
      · rw [← eX]; exact hc
  · have hq' : upd M.pl p [] q ≠ [] := hq
    unfold upd at hq'
    split at hq'
    · exact absurd rfl hq'
    · by_cases hqs : q.1 = s ∨ q.2 = s
      · obtain ⟨z, hz⟩ := List.exists_mem_of_ne_nil _ hq'
        obtain ⟨_, j, X, t, _, hj, hc⟩ := ((h.new q hqs).2 z).1 hz
        exact small_cnt ((hpos _ (List.mem_of_getElem? hj)).2) (by simp only; omega)
      · rw [h.old q (fun e => hqs (.inl e)) (fun e => hqs (.inr e))] at hq'
        have := hg.new q hq'
        omega
  · have hz' : z ∈ upd M.pl p [] q := hz
    unfold upd at hz'
    split at hz'
    · simp at hz'
    · by_cases hqs : q.1 = s ∨ q.2 = s
      · obtain ⟨_, j, X, t, e, hj, hc⟩ := ((h.new q hqs).2 z).1 hz'
        rw [hw] at hj
        exact .inr ⟨j, X, t, e, hj, hc⟩
      · rw [h.old q (fun e => hqs (.inl e)) (fun e => hqs (.inr e))] at hz'
        exact .inl (hg.was q z hz')
end Go.Proofs.YtnmacalbbmeedaaGreat
