/- Texts in one: TrS, IxNote, IxGet. -/
import Derived.Test.YtnmacalbbmeedaaGreatQ25
import Derived.Test.YtnmacalbbmeedaaGreatQ16
import Derived.Test.YtnmacalbbmeedaaGreatQ17
import Derived.Deep.RegionHeld3
/- A learner that keeps counts, plain: what stands behind its merges is what counting anew learns. -/
namespace Go.Proofs.YtnmacalbbmeedaaGreat

/-- What stands: the table J, the words ws, the queue q; ms were learnt. -/
structure TrS (L : Bag) (least : Int) (J : List Joint) (ws : List Wd) (q : Qm) (ms : List Mg) : Prop where
  good : Good J
  made : mergesOf J = ms
  words : txWs J ws = runT (startW L) ms
  cts : ctWs ws = countsOf L
  all : GoodW J ws
  wt : wtW ws ≤ 9223372036854775807
  sane : SaneQ J q
  qok : QOk (capT least (totW ws)) (fun _ => False) q
  low : LowQ least q
  peak : PeakOk q
  push : q.pu + 4 * lenW ws ≤ 5 * (bytesOf L : Int)
  len : (ms.length : Int) + lenW ws ≤ (bytesOf L : Int)
  each : ∀ i (h : i < ms.length), ∃ n, BestRel (runT (startW L) (ms.take i)) (countsOf L) ms[i] n ∧ least ≤ n
variable {L : Bag} {least : Int} {J : List Joint} {ws : List Wd} {q : Qm} {ms : List Mg} {p : Int × Int}
set_option maxRecDepth 100000 in
theorem lenW_pos (ws : List Wd) : 0 ≤ lenW ws := sumW_nonneg fun _ _ => by omega
set_option maxRecDepth 100000 in
theorem GoodW.pos (h : GoodW J ws) : ∀ x ∈ ws, 1 ≤ x.2 := fun x hx => (h x hx).2
set_option maxRecDepth 100000 in
theorem GoodW.syms (h : GoodW J ws) : ∀ x ∈ ws, ∀ y ∈ x.1, 0 ≤ y ∧ y < newS J := fun x hx y hy => by
  obtain ⟨h0, h1⟩ := there_iff.1 ((h x hx).1 y hy)
  rw [texts_len] at h1
  unfold newS
  omega
set_option maxRecDepth 100000 in
theorem tot_sane (h : GoodW J ws) (r : Int × Int) : 0 ≤ totW ws r ∧ totW ws r ≤ wtW ws :=
  ⟨tot_nonneg (fun x hx => by have := h.pos x hx; omega) r, tot_le (fun x hx => by have := h.pos x hx; omega) r⟩
set_option maxRecDepth 100000 in
/-- Of a pair that is counted both symbols are there. -/
theorem counted_there (h : GoodW J ws) {r : Int × Int} (hr : totW ws r ≠ 0) : ThereP J r := by
  have h0 := (tot_sane h r).1
  obtain ⟨x, hx, hc⟩ := (tot_pos h.pos).1 (show 0 < totW ws r by omega)
  have hm := cnt_mem (X := x.1) (q := r) (by omega)
  exact ⟨(h x hx).1 _ hm.1, (h x hx).1 _ hm.2⟩
set_option maxRecDepth 100000 in
theorem fits_there {r : Int × Int} (h : ThereP J r) (hJ : J.length ≤ 1000000) : FitsPr r := by
  obtain ⟨a0, a1⟩ := there_iff.1 h.1
  obtain ⟨b0, b1⟩ := there_iff.1 h.2
  rw [texts_len] at a1 b1
  exact ⟨by omega, by omega⟩
set_option maxRecDepth 100000 in
theorem TrS.jlen (h : TrS L least J ws q ms) : J.length = ms.length := by rw [← h.made, merges_len]
set_option maxRecDepth 100000 in
/-- At the beginning: each pair that is there was put. -/
theorem TrS.start (hr : (checkOf L).2 = 0) {Y : List (Int × Int)} (hn : Y.Nodup) (hY : ∀ r, r ∈ Y ↔ 0 < totW (wsOf L) r) : TrS L least [] (wsOf L) (putsQ (capT least (totW (wsOf L))) Y newQ) [] := by
  obtain ⟨f1, _, f3⟩ := right_facts hr
  have hall : GoodW [] (wsOf L) := good_start fun p hp => (f1 p hp).2
  have hts := tot_sane hall
  have hq0 : QOk (capT least (totW (wsOf L))) (fun r => r ∈ Y) newQ := ⟨fun r h c => by
    have h0 := (hts r).1
    have h1 : ¬ 0 < totW (wsOf L) r := fun k => h ((hY r).2 k)
    exact ⟨fun k => by simp [newQ] at k, fun k => by have := (cap_some (d := least) (t := totW (wsOf L)) (r := r) (by rw [← k.1]; exact k.2)).2.2; omega⟩, fun r h hc => absurd ((hY r).2 (by have := (cap_some hc).2.2; omega)) h⟩
  have hq := (hq0.puts Y).mono (todo' := fun _ => False) fun r hr => hr.2 hr.1
  have hlow := (lowQ_new least).puts (t := capT least (totW (wsOf L))) Y fun r _ h => cap_low h
  obtain ⟨s1, s2⟩ := sane_puts (t := capT least (totW (wsOf L))) Y (saneQ_new []) (show PeakOk newQ from ⟨by simp [newQ], by simp [newQ]⟩) fun r hr => by
    have h1 := (hY r).1 hr
    have ht := counted_there hall (r := r) (by omega)
    have := (hts r).2
    exact ⟨fits_there ht (by simp), ht, cap_le (by omega) (by omega)⟩
  obtain ⟨p1, _⟩ := puts_pu (t := capT least (totW (wsOf L))) Y newQ
  have hlen : ((Y.filter fun r => decide (1 ≤ capT least (totW (wsOf L)) r)).length : Int) ≤ lenW (wsOf L) := by
    have h1 : (Y.filter fun r => decide (1 ≤ capT least (totW (wsOf L)) r)).length ≤ (adjW (wsOf L)).length := len_sub (hn.filter _) fun r hr => by
      have h2 := (hY r).1 (List.mem_filter.1 hr).1
      obtain ⟨x, hx, hc⟩ := (tot_pos hall.pos).1 h2
      exact List.mem_flatMap.2 ⟨x, hx, xcnt_adj (by omega)⟩
    have := adjW_len (ws := wsOf L)
    omega
  have hb := ws_bytes L
  refine ⟨good_nil, rfl, tx_start L, ct_start L, hall, f3, s1, hq, hlow, s2, ?_, by simp; omega, fun i h => by simp at h⟩
  rw [p1]
  show (0 : Int) + _ + _ ≤ _
  omega
set_option maxRecDepth 100000 in
theorem made_more (hg : Good J) (hp : ThereP J p) : mergesOf (moreJ J p) = mergesOf J ++ [mgOf J p] := by
  unfold mergesOf
  have e : moreJ J p = J ++ [(txtOf J p.1 ++ txtOf J p.2, p.1, p.2)] := rfl
  have hm : ∀ {y : Int}, thereOf J y = true → txtOf (moreJ J p) y = txtOf J y := fun h => by unfold moreJ; exact txt_more h
  conv => lhs; arg 2; rw [e]
  rw [List.map_append]
  congr 1
  · refine List.map_congr_left fun x hx => ?_
    obtain ⟨k, hk, rfl⟩ := List.mem_iff_getElem.1 hx
    obtain ⟨e1, e2, _⟩ := hg.each k hk
    rw [hm (there_iff.2 ⟨e1.1, by rw [texts_len]; omega⟩), hm (there_iff.2 ⟨e2.1, by rw [texts_len]; omega⟩)]
  · show [(txtOf (moreJ J p) p.1, txtOf (moreJ J p) p.2)] = _
    rw [hm hp.1, hm hp.2]
    rfl
set_option maxRecDepth 100000 in
/-- The best pair can be joined: its text is new. -/
theorem TrS.joins (h : TrS L least J ws q ms) (hl : 1 ≤ least) (hL : bytesOf L ≤ 30000) {n : Int} (hp : ThereP J p) (hb : BestRel (txWs J ws) (ctWs ws) (mgOf J p) n) (hn : 1 ≤ n) : joinOf J p.1 p.2 = ((newS J, 0), moreJ J p) := by
  have hb2 := hb
  rw [h.words, h.cts] at hb2
  have hone := start_one L
  have hright : RightM (ms ++ [mgOf J p]) := learned_right hone fun i hi => by
    by_cases e : i < ms.length
    · obtain ⟨k, a1, a2⟩ := h.each i e
      rw [List.take_append_of_le_length (by omega), List.getElem_append_left e]
      exact a1.some (by omega)
    · have e2 : i = ms.length := by simp at hi; omega
      subst e2
      rw [List.take_left' rfl, List.getElem_append_right (Nat.le_refl _)]
      simpa using hb2.some hn
  obtain ⟨_, hnew⟩ := hright ms.length (by simp)
  rw [List.take_left' rfl, List.getElem_append_right (Nat.le_refl _)] at hnew
  simp only [Nat.sub_self, List.getElem_cons_zero] at hnew
  obtain ⟨W, hW, hc⟩ := hb2.some hn
  obtain ⟨P, R, e⟩ := cnt_stands hc
  have z1 := run_small (L := L) (Nat.le_refl _) ms W hW (mgOf J p).1 (by rw [e]; simp)
  have z2 := run_small (L := L) (Nat.le_refl _) ms W hW (mgOf J p).2 (by rw [e]; simp)
  have t1 := txt_size h.good hp.1
  have t2 := txt_size h.good hp.2
  refine join_new (by rw [hp.1, hp.2]; rfl) (by show ¬ 65536 < (mgOf J p).1.size + (mgOf J p).2.size; omega) ?_
  cases hf : (findOf J (txtOf J p.1 ++ txtOf J p.2)).2 with
  | false => rfl
  | true =>
    exfalso
    have hm := find_snd.1 hf
    rcases List.mem_append.1 hm with k | k
    · obtain ⟨c, _, e1⟩ := List.mem_map.1 k
      have := congrArg ByteArray.size e1
      rw [oneB_size, size_app] at this
      omega
    · obtain ⟨x, hx, e1⟩ := List.mem_map.1 k
      obtain ⟨j, hj, rfl⟩ := List.mem_iff_getElem.1 hx
      obtain ⟨_, _, e2⟩ := h.good.each j hj
      refine hnew (txtOf J J[j].2.1, txtOf J J[j].2.2) ?_ ?_
      · rw [← h.made]
        exact List.mem_map.2 ⟨J[j], hx, rfl⟩
      · show txtOf J J[j].2.1 ++ txtOf J J[j].2.2 = txtOf J p.1 ++ txtOf J p.2
        rw [← e2, e1]
set_option maxRecDepth 100000 in
/-- A step: the best one is popped, joined, merged, and what turned by it is put. -/
theorem TrS.step (h : TrS L least J ws q ms) (hl : 1 ≤ least) (hL : bytesOf L ≤ 30000) {x : Item} {l : List Item} {n : Nat} (hp : Pops J (totW ws) q.ents (some x) l n) {Y : List (Int × Int)} (hn : Y.Nodup) (hY : ∀ r, r ∈ Y ↔ totW (mergeWs (pairI x) (newS J) ws) r ≠ totW ws r) :
    joinOf J x.1 x.2.1 = ((newS J, 0), moreJ J (pairI x)) ∧ TrS L least (moreJ J (pairI x)) (mergeWs (pairI x) (newS J) ws) (putsQ (capT least (totW (mergeWs (pairI x) (newS J) ws))) Y (popQ q (some x) l n)) (ms ++ [mgOf J (pairI x)]) := by
  obtain ⟨hb, hth, hfp, h1, h2, hx⟩ := h.qok.best h.good h.all h.sane h.low hp
  have hj := h.joins hl hL hth hb h1
  have hj2 : joinOf J x.1 x.2.1 = ((newS J, 0), moreJ J (pairI x)) := hj
  have hg' : Good (moreJ J (pairI x)) := by
    have := good_join h.good x.1 x.2.1
    rw [hj2] at this
    exact this
  have hall' := good_merge (p := pairI x) h.all
  have hjl := h.jlen
  have hlen := h.len
  have hpos := lenW_pos ws
  have hgone := merged_gone (p := pairI x) h.all.syms
  have hgone2 : totW (mergeWs (pairI x) (newS J) ws) (pairI x) = 0 := by
    have h3 := (tot_sane hall' (pairI x)).1
    refine Classical.byContradiction fun k => ?_
    obtain ⟨y, hy, hc⟩ := (tot_pos hall'.pos).1 (show 0 < totW (mergeWs (pairI x) (newS J) ws) (pairI x) by omega)
    have := hgone y hy
    omega
  have hpY : pairI x ∈ Y := (hY _).2 (by rw [hgone2, h2]; omega)
  have hwt' : wtW (mergeWs (pairI x) (newS J) ws) ≤ wtW ws := by
    unfold wtW mergeWs
    clear hp hb hj hj2 hg' hall' hgone hgone2 hpY hlen hpos hjl hfp hY
    have : ∀ (w : List Wd), (∀ y ∈ w, 1 ≤ y.2) → sumW (fun x => x.2 * ((x.1.length - 1 : Nat) : Int)) (w.map fun y => (mergeL (pairI x) (newS J) y.1, y.2)) ≤ sumW (fun x => x.2 * ((x.1.length - 1 : Nat) : Int)) w := by
      intro w
      induction w with
      | nil => intro _; exact Int.le_refl _
      | cons y r ih =>
        intro hw
        have a1 := ih fun z hz => hw z (List.mem_cons_of_mem _ hz)
        have a2 := pmerge_len (p := pairI x) (s := newS J) y.1
        have a3 := hw y List.mem_cons_self
        have a4 : y.2 * (((mergeL (pairI x) (newS J) y.1).length - 1 : Nat) : Int) ≤ y.2 * ((y.1.length - 1 : Nat) : Int) := Int.mul_le_mul_of_nonneg_left (by omega) (by omega)
        simp only [List.map_cons, sumW]
        omega
    exact this ws h.all.pos
  have hq : QOk (capT least (totW (mergeWs (pairI x) (newS J) ws))) (fun _ => False) (putsQ (capT least (totW (mergeWs (pairI x) (newS J) ws))) Y (popQ q (some x) l n)) := by
    have q1 := (h.qok.pop hp).mono (todo' := fun r => r ∈ Y) fun r hr => by rw [hr]; exact hpY
    have q2 := q1.turn (t' := capT least (totW (mergeWs (pairI x) (newS J) ws))) fun r hr => by
      have e : totW (mergeWs (pairI x) (newS J) ws) r = totW ws r := Classical.byContradiction fun k => hr ((hY r).2 k)
      unfold capT
      rw [e]
    exact (q2.puts Y).mono fun r hr => hr.2 hr.1
  have hlow := (h.low.pop hp).puts (t := capT least (totW (mergeWs (pairI x) (newS J) ws))) Y fun r _ k => cap_low k
  have hpeak : PeakOk (popQ q (some x) l n) := h.peak
  obtain ⟨s1, s2⟩ := sane_puts (t := capT least (totW (mergeWs (pairI x) (newS J) ws))) Y ((h.sane.pop hp).more (pairI x)) hpeak fun r hr => by
    have h3 := (hY r).1 hr
    have ht : ThereP (moreJ J (pairI x)) r := by
      by_cases e : totW (mergeWs (pairI x) (newS J) ws) r = 0
      · have := counted_there h.all (r := r) (by omega)
        exact ⟨there_more this.1, there_more this.2⟩
      · exact counted_there hall' e
    have h4 := (tot_sane hall' r).2
    have h5 := h.wt
    refine ⟨fits_there ht (by unfold moreJ; rw [List.length_append, List.length_singleton]; omega), ht, cap_le (by omega) (by omega)⟩
  obtain ⟨p1, _⟩ := puts_pu (t := capT least (totW (mergeWs (pairI x) (newS J) ws))) Y (popQ q (some x) l n)
  have hpush := push_few (d := least) (ws := ws) hn (fun r hr => (hY r).1 hr) (by omega : totW (mergeWs (pairI x) (newS J) ws) (pairI x) < 1)
  have hp0 := h.push
  have hless : lenW (mergeWs (pairI x) (newS J) ws) < lenW ws := by
    have h3 := tr_sum (pairI x) (newS J) ws
    obtain ⟨y, hy, hc⟩ := (tot_pos h.all.pos).1 (show 0 < totW ws (pairI x) by omega)
    have h4 := sumW_mem (g := fun x' => (timesL (pairI x) x'.1 : Int)) (fun _ _ => by omega) hy
    have h5 : timesL (pairI x) y.1 ≠ 0 := fun k => by have := times_cnt.1 k; omega
    omega
  refine ⟨hj2, hg', by rw [made_more h.good hth, h.made], ?_, by rw [cts_merge]; exact h.cts, hall', by have := h.wt; omega, s1, hq, hlow, s2, ?_, by rw [List.length_append, List.length_singleton]; omega, fun i hi => ?_⟩
  · rw [txs_merge h.good hth h.all, h.words, runT_snoc]
  · rw [p1]
    have : (popQ q (some x) l n).pu = q.pu := rfl
    omega
  · by_cases e : i < ms.length
    · obtain ⟨k, a1, a2⟩ := h.each i e
      refine ⟨k, ?_, a2⟩
      rw [List.take_append_of_le_length (by omega), List.getElem_append_left e]
      exact a1
    · have e2 : i = ms.length := by simp at hi; omega
      subst e2
      rw [h.words, h.cts] at hb
      refine ⟨x.2.2, ?_, hx⟩
      rw [List.take_left' rfl, List.getElem_append_right (Nat.le_refl _)]
      simpa using hb
set_option maxRecDepth 100000 in
/-- The bounds of what was counted. -/
theorem TrS.bounds (h : TrS L least J ws q ms) : (0 ≤ q.pu ∧ q.pu ≤ 5 * (bytesOf L : Int)) ∧ (0 ≤ q.pk ∧ q.pk ≤ 5 * (bytesOf L : Int) + 1) ∧ (0 ≤ q.po ∧ q.po ≤ q.pu) ∧ 0 ≤ q.re ∧ (ms.length : Int) ≤ (bytesOf L : Int) := by
  have h1 := h.push
  have h2 := lenW_pos ws
  have h3 := h.peak
  have h4 := h.sane.cnt
  have h5 := h.sane.po
  have h6 := h.len
  have h7 := h.sane.re
  unfold PeakOk at h3
  omega
set_option maxRecDepth 100000 in
/-- What ends it. -/
theorem TrS.learned (h : TrS L least J ws q ms) {budget : Int} (hb : (ms.length : Int) ≤ max budget 0) (he : (ms.length : Int) = max budget 0 ∨ ∃ m n, BestRel (txWs J ws) (ctWs ws) m n ∧ n < least) : Learned (startW L) (countsOf L) budget least ms := by
  refine ⟨h.each, hb, he.imp id fun ⟨m, n, a1, a2⟩ => ⟨m, n, ?_, a2⟩⟩
  rw [h.words, h.cts] at a1
  exact a1
set_option maxRecDepth 100000 in
/-- Where none is popped, all stays, and the best one hasn't the least count. -/
theorem TrS.ends (h : TrS L least J ws q ms) (hl : 1 ≤ least) {l : List Item} {n : Nat} (hp : Pops J (totW ws) q.ents none l n) :
    TrS L least J ws (popQ q none l n) ms ∧ ∃ m k, BestRel (runT (startW L) ms) (countsOf L) m k ∧ k < least := by
  obtain ⟨m, k, h1, h2⟩ := h.qok.empty hl h.good h.all hp
  rw [h.words, h.cts] at h1
  exact ⟨⟨h.good, h.made, h.words, h.cts, h.all, h.wt, h.sane.pop hp, (h.qok.nothing hp).2, h.low.pop hp, h.peak, h.push, h.len, h.each⟩, m, k, h1, h2⟩
end Go.Proofs.YtnmacalbbmeedaaGreat
/- The places of a word's changes kept, walked. -/
namespace Go.Proofs.YtnmacalbbmeedaaGreat
open Go.RowKit Go.Maps

set_option maxRecDepth 100000 in
set_option maxHeartbeats 8000000 in
theorem xnote_any (K N : Nat) (lab : Nat → Lab) (V : Int × Int → Value) (M : Mdl) (j : Nat) (Y : List Int) (t : Int) (v : Value) (X : List Chg) (w : World) (h : IxM w lab K N V M) (hj : M.ws[j]? = some (Y, t)) (hv : ∀ W, Kept (Mine lab) w W → eltsAt chgE W v X) (hd : X.Pairwise fun x y => x.1 ≠ y.1)
    (hf : ∀ x ∈ X, FitsCh x) (hs : ∀ x ∈ X, FitsZ (x.2 * t)) (hz : ∀ x ∈ X, 0 < x.2 → ∀ y ∈ M.pl x.1, y < (j : Int)) (hl : ∀ q, (M.pl q).length ≤ 100000) (hX : X.length ≤ 10000) (hN : N ≤ 900000000000) :
    Calls Tryz.prog 67 #[.pointer (some ⟨K, 0, none⟩), .int .i64 (j : Int), v] w fun e w' => NoteRet lab K N V M j t X w e w' := by
  have HV := Lib.hid hv; have HF := Lib.hid hf; have HD := Lib.hid hd; have HSC := Lib.hid hs; have HZ := Lib.hid hz; have HLL := Lib.hid hl; have HJ := Lib.hid hj
  have H := Lib.hid h
  have hjl := (List.getElem?_eq_some_iff.1 hj).1
  obtain ⟨a, cap, rfl, _⟩ := hv w (Kept.refl _ w)
  obtain ⟨n, hn⟩ : ∃ n, X.length = n := ⟨_, rfl⟩
  have HNN := Lib.hid hn
  obtain ⟨NW, hNW⟩ : ∃ NW, M.ws.length = NW := ⟨_, rfl⟩
  have HNW := Lib.hid hNW
  rw [hNW] at hjl
  rw [hn] at HV hX ⊢
  obtain ⟨g, hg⟩ : ∃ g, w.heap.size = g := ⟨_, rfl⟩
  have HG := Lib.hid hg
  have hlg : lab g = .no := h.fresh (by omega)
  obtain ⟨i0, hi, hz0, hz1, hz2⟩ := info_parts chgE.info
  have hz2' : i0.bytes = 24 := hz2
  clear hf hd hs hz hl hj h hv hn hNW
  go_enter Tryz.func67, Tryz.ntmps67
  go_wp2_with (at_make; refine wpList_make_full _ rfl _ _ 137 rfl w.heap.size 167 i0 chgE.zero 3 Tryz.underlying137 hi hz0 hz1 .i64 .i64 _ _ n rfl rfl rfl rfl (by rw [hz2']; omega) (by unfold maxLen; omega) (Nat.le_refl _) ?_; intro w1 hown1 hgr1)
  rw [hg] at hown1
  have HR1 : Hid (rowE chgE w1 g (List.replicate n ((0, 0), 0))) := Lib.hid (rowE_made chgE ((0, 0), 0) rfl hown1)
  have HB1 : Hid (Below w.heap.size w w1) := Lib.hid ((Below.refl w.heap.size w).grown hgr1 (Nat.le_refl _) fun g hg => by cases hg)
  clear hown1 hgr1 hi hz0 hz1 hz2 hz2' hg
  go_loopw [15] (fun i wr => NoteRel w lab K N V M j t X g i wr) (fun i _ => n + 1 - (intOf i).toNat)
  case atStart => exact ⟨0, lab, V, rfl, Nat.zero_le _, fun _ _ => rfl, H.out.below HB1.out, XRet.below HB1.out, by unfold fillC; rw [scale_len, HNN.out]; exact HR1.out, hlg, by rw [HG.out]; exact Nat.le_refl _, H.out.ltK, HB1.out.block K H.out.ltK⟩
  case round =>
    obtain ⟨k, lab1, V1, rfl, hk, hV1, hM1, hx1, hr1, hg1, _, hKl, hKb⟩ := hrel
    have HKb : Hid (K < w.heap.size ∧ wr.heap[K]? = w.heap[K]?) := Lib.hid ⟨hKl, hKb⟩
    clear hKl hKb
    rw [HNN.out] at hk
    have HV1 := Lib.hid hV1; have HM1 := Lib.hid hM1; have HX1 := Lib.hid hx1; have HR := Lib.hid hr1; have HG1 := Lib.hid hg1
    clear hV1 hM1 hx1 hr1 hg1 HR1 HB1
    by_cases hgo : k < n
    · have hkI : (k : Int) < (n : Int) := by omega
      have hkL : k < X.length := by rw [HNN.out]; exact hgo
      have hEl := HV.out wr HX1.out.kept
      obtain ⟨ad, rfl⟩ : ∃ ad, a = some ad := by
        obtain ⟨_, _, e, hc⟩ := hEl
        obtain ⟨ad, e2, _⟩ := hc k hkL
        exact ⟨ad, (Value.slice.inj e).1.trans e2⟩
      obtain ⟨e0, e1, e2⟩ := chgs_at hEl (Below.refl _ wr) hkL
      have hfit := HF.out _ (List.getElem_mem hkL)
      have hsc := HSC.out _ (List.getElem_mem hkL)
      have hzz := HZ.out _ (List.getElem_mem hkL)
      have hfr := noteF_fresh (z := (j : Int)) HD.out hkL M.pl
      have hst := noteF_take (z := (j : Int)) hkL M.pl
      obtain ⟨z0, z1, zy, hz⟩ : ∃ z0 z1 zy, X[k] = ((z0, z1), zy) := ⟨_, _, _, rfl⟩
      rw [hz] at e0 e1 e2 hfit hsc hzz hfr hst
      simp only at e0 e1 e2 hsc hzz hfr hst
      obtain ⟨fp, fy⟩ := hfit
      simp only at fp fy
      have FP := Lib.hid fp
      have HFR := Lib.hid hfr; have HST := Lib.hid hst; have HZZ := Lib.hid hzz; have HX : Hid (∀ h : k < X.length, X[k] = ((z0, z1), zy)) := Lib.hid fun _ => hz; have HKL := Lib.hid hkL
      obtain ⟨bx, hbx⟩ : ∃ bx, wr.heap.size = bx := ⟨_, rfl⟩
      obtain ⟨w3, hw3⟩ : ∃ w3, w3 = wr.alloc (.cells #[.int .i64 z0, .int .i64 z1, .int .i64 zy] 167) := ⟨_, rfl⟩
      have hB3 : Below wr.heap.size wr w3 := by rw [hw3]; exact (Below.refl _ wr).alloc (Nat.le_refl _) _
      have hbox3 : w3.heap[bx]? = some (.cells #[.int .i64 z0, .int .i64 z1, .int .i64 zy] 167 (0, 0)) := by rw [hw3, ← hbx]; exact heap_alloc_new wr _
      have hbx3 : bx < w3.heap.size := (Array.getElem?_eq_some_iff.1 hbox3).1
      have hlbx : lab1 bx = .no := HM1.out.fresh (by omega)
      have HM3 := Lib.hid (HM1.out.below hB3)
      have HX3 := Lib.hid (HX1.out.trans (XRet.below hB3))
      have hgw := HR.out.lt
      have HR3 := Lib.hid (HR.out.kept (hB3.block g hgw))
      have HB3K : Hid (w3.heap[K]? = wr.heap[K]?) := Lib.hid (hB3.block K HM1.out.ltK)
      have HGB : Hid (g ≠ bx) := Lib.hid (by omega)
      have HB3 := Lib.hid hbox3
      obtain ⟨d0, d1, d2⟩ := box3_cells hbox3
      have hwr : IntKind.i64.wrap (zy * t) = zy * t := IntWalk.i64_in _ (by unfold FitsZ at hsc; omega)
      have hw3' := hw3.symm
      by_cases hpos : 0 < zy
      · have hzy := HZZ.out hpos
        have cP := xput_any K (N + k) lab1 V1 { M with pl := noteF j M.pl (X.take k) } z0 z1 j w3 HM3.out FP.out (by simp only; rw [HFR.out]; exact hzy) (by simp only; rw [HFR.out]; exact HLL.out _) (by omega)
        clear hEl hw3 fp fy hzz hfr hst hzy hB3
        go_wp2_with fail
        refine cP.mono ?_
        rintro e w4 ⟨rfl, lab4, rv, hM4, hx4, hKb4⟩
        obtain ⟨hl4, hb4⟩ := hx4.out hbx3 hlbx
        obtain ⟨hgl4, hgb4⟩ := hx4.out HR3.out.lt HG1.out
        have HR4 := Lib.hid (HR3.out.kept hgb4)
        have HX4 := Lib.hid (HX3.out.trans hx4)
        have HM4 := Lib.hid hM4
        have hbox4 := hb4.trans HB3.out
        obtain ⟨w5, hw5⟩ : ∃ w5, w5 = w4.drew := ⟨_, rfl⟩
        have hbox5 : w5.heap[bx]? = some (.cells #[.int .i64 z0, .int .i64 z1, .int .i64 zy] 167 (0, 0)) := (by rw [hw5]; exact hbox4)
        obtain ⟨y0, y1, y2⟩ := box3_cells hbox5
        have hM5 : IxM w5 lab4 K (N + (k + 1)) (upd V1 (z0, z1) rv) { M with pl := noteF j M.pl (X.take (k + 1)) } := by
          rw [hw5]
          have := hM4.drew
          rw [HST.out, if_pos hpos]
          exact this
        have hX5 : XRet lab w lab4 w5 := by rw [hw5]; exact HX4.out.drew
        have hR5 : rowE chgE w5 g (fillC (scaleC t X) k) := by rw [hw5]; exact HR4.out.kept rfl
        have HE := Lib.hid (note_step HKL.out (HX.out HKL.out) (HV1.out.put HKL.out (HX.out HKL.out) hpos rv) hM5 hX5 hR5 hgl4 rfl (by rw [HG.out]; exact Nat.le_refl _) HKb.out.1 (by rw [hw5]; exact (hKb4.trans (HB3K.out)).trans HKb.out.2))
        obtain ⟨gw, c, kk, gg, YY, v0, _, _, v2, _, _, _, _, _⟩ := hM5.word (j := j) (X := Y) (t := t) HJ.out
        simp only [HNW.out] at v0
        obtain ⟨⟨u0, s0⟩, ⟨u1, s1⟩, ⟨u2, s2⟩, s3⟩ := crow_cell hR5 (k := k) (by rw [fillC_len (by rw [scale_len, HNN.out]; omega), scale_len, HNN.out]; exact hgo)
        have s30 := s3 (k * 3); have s31 := s3 (k * 3 + 1); have s32 := s3 (k * 3 + 2)
        have hw5' := hw5.symm
        clear cP hKb4 hM4 hx4 hl4 hb4 hgl4 hgb4 hbox4 hbox5 hM5 hX5 hR5 s3 hw5 d0 d1 d2 hbox3 hkL hz
        go_wp2_with fail
        go_region
        all_goals (go_wp2_with fail)
        go_roundw
        case rel => exact HE.out
        case measure => simp [intOf] <;> omega
      · have hneg : ¬ 0 < zy := hpos
        obtain ⟨w5, hw5⟩ : ∃ w5, w5 = w3.drew := ⟨_, rfl⟩
        have hbox5 : w5.heap[bx]? = some (.cells #[.int .i64 z0, .int .i64 z1, .int .i64 zy] 167 (0, 0)) := (by rw [hw5]; exact hbox3)
        obtain ⟨y0, y1, y2⟩ := box3_cells hbox5
        have hM5 : IxM w5 lab1 K (N + (k + 1)) V1 { M with pl := noteF j M.pl (X.take (k + 1)) } := by
          rw [hw5]
          have := HM3.out.drew.mono (N' := N + (k + 1)) (by omega)
          rw [HST.out, if_neg hneg]
          exact this
        have hX5 : XRet lab w lab1 w5 := by rw [hw5]; exact HX3.out.drew
        have hR5 : rowE chgE w5 g (fillC (scaleC t X) k) := by rw [hw5]; exact HR3.out.kept rfl
        have HE := Lib.hid (note_step HKL.out (HX.out HKL.out) HV1.out hM5 hX5 hR5 HG1.out rfl (by rw [HG.out]; exact Nat.le_refl _) HKb.out.1 (by rw [hw5]; exact HB3K.out.trans HKb.out.2))
        obtain ⟨gw, c, kk, gg, YY, v0, _, _, v2, _, _, _, _, _⟩ := hM5.word (j := j) (X := Y) (t := t) HJ.out
        simp only [HNW.out] at v0
        obtain ⟨⟨u0, s0⟩, ⟨u1, s1⟩, ⟨u2, s2⟩, s3⟩ := crow_cell hR5 (k := k) (by rw [fillC_len (by rw [scale_len, HNN.out]; omega), scale_len, HNN.out]; exact hgo)
        have s30 := s3 (k * 3); have s31 := s3 (k * 3 + 1); have s32 := s3 (k * 3 + 2)
        have hw5' := hw5.symm
        clear hbox5 hM5 hX5 hR5 s3 hw5 hbox3 hkL hz hEl hw3 fp fy hzz hfr hst hB3
        go_wp2_with fail
        go_region
        all_goals (go_wp2_with fail)
        go_roundw
        case rel => exact HE.out
        case measure => simp [intOf] <;> omega
    · have hkI : ¬ (k : Int) < (n : Int) := by omega
      obtain rfl : k = n := by omega
      have hkX : X.take k = X := by rw [← HNN.out]; exact List.take_length
      have hM := HM1.out
      rw [hkX] at hM
      have HM := Lib.hid hM
      have HO : Hid (ownE chgE wr w.heap.size (.slice (some ⟨g, 0, none⟩) k k) (scaleC t X)) := Lib.hid (by
        have h1 := HR.out
        rw [← HNN.out, ← scale_len t X, fillC_all] at h1
        have h2 := h1.own (b := w.heap.size) (by rw [HG.out]; exact Nat.le_refl _) (by rw [scale_len, HNN.out]; unfold maxLen; omega)
        rw [scale_len, HNN.out] at h2
        exact h2)
      clear hM hkX
      go_wp2_with fail
      go_ret
      rw [← HNN.out] at HM
      exact ⟨_, lab1, V1, rfl, HO.out, fun g2 hg2 => by cases hg2; exact HG1.out, HV1.out, HM.out, HX1.out, HKb.out.2⟩
end Go.Proofs.YtnmacalbbmeedaaGreat
/- What an index tells. -/
namespace Go.Proofs.YtnmacalbbmeedaaGreat
open Go.RowKit Go.Maps

set_option maxRecDepth 100000 in
set_option maxHeartbeats 2000000 in
theorem xcount_any (K N : Nat) (lab : Nat → Lab) (V : Int × Int → Value) (M : Mdl) (p q : Int) (w : World) (h : IxM w lab K N V M) (hp : FitsPr (p, q)) :
    Calls Tryz.prog 34 #[.pointer (some ⟨K, 0, none⟩), .agg #[.int .i64 p, .int .i64 q]] w fun e w' => e = .returned (.int .i64 (getC M.cnt (p, q))) ∧ Below w.heap.size w w' := by
  obtain ⟨wv, Kc, mc, b, E, h⟩ := h
  obtain ⟨c, hc⟩ : ∃ c, getC M.cnt (p, q) = c := ⟨_, rfl⟩
  rw [hc]
  obtain ⟨w1, hw1⟩ : ∃ w1, w1 = w.alloc (.cells #[.int .i64 p, .int .i64 q] 77) := ⟨_, rfl⟩
  obtain ⟨bx, hbx⟩ : ∃ bx, w.heap.size = bx := ⟨_, rfl⟩
  have B1 : Below w.heap.size w w1 := by rw [hw1]; exact (Below.refl _ w).alloc (Nat.le_refl _) _
  have hs1 : w1.heap.size = bx + 1 := by rw [hw1, ← hbx]; simp
  have h1 := h.below B1
  have HC : Hid (∀ W', Below w1.heap.size w1 W' → W'.cell? ⟨bx, 0, none⟩ = some (.int .i64 p) ∧ W'.cell? ⟨bx, 1, none⟩ = some (.int .i64 q) ∧ W'.cell? ⟨K, 1, none⟩ = some (.pointer (some ⟨Kc, 0, none⟩))) := Lib.hid (fun W' hW => by
    refine ⟨(hW.cell (show bx < w1.heap.size by omega)).trans ?_, (hW.cell (show bx < w1.heap.size by omega)).trans ?_, (hW.cell h1.ltK).trans h1.cells.2.1⟩
    · rw [hw1, ← hbx]; simp
    · rw [hw1, ← hbx]; simp)
  have HG : Hid (Calls Tryz.prog 55 #[.pointer (some ⟨Kc, 0, none⟩), .agg #[.int .i64 p, .int .i64 q]] w1.drew fun e w' => e = .returned (.int .i64 c) ∧ Below w1.heap.size w1 w') := Lib.hid (by
    refine (dget_any Kc mc M.cnt p q w1.drew (h1.drew).cts hp).mono ?_
    rintro e w' ⟨rfl, rfl⟩
    exact ⟨by rw [hc], (((Below.refl _ w1).drew).alloc (by show w1.heap.size ≤ w1.heap.size; omega) _).drew⟩)
  have HB1 := Lib.hid B1
  have HZ1 := Lib.hid (HC.out w1 (Below.refl _ _))
  have HZ2 := Lib.hid (HC.out w1.drew (Below.refl _ _).drew)
  have hw1' := hw1.symm
  clear h h1 B1 hw1 hs1 hc
  go_enter Tryz.func34, Tryz.ntmps34
  go_wp2_with fail
  go_region_held3 (fun w' => w'.cell? ⟨bx, 0, none⟩ = some (.int .i64 p) ∧ w'.cell? ⟨bx, 1, none⟩ = some (.int .i64 q) ∧ w'.cell? ⟨K, 1, none⟩ = some (.pointer (some ⟨Kc, 0, none⟩))) (first | exact HZ1.out | exact HZ2.out | exact HZ3.out) (first
    | (go_at_call 55
       with_reducible refine HG.out.mono ?_
       rintro e w3 ⟨rfl, hb3⟩
       have HZ3 := Lib.hid (HC.out w3 hb3)
       have HB3 := Lib.hid (HB1.out.trans (hb3.mono HB1.out.size))
       clear hb3))
  all_goals (go_wp2_with fail)
  all_goals go_ret
  all_goals exact ⟨rfl, HB3.out⟩
set_option maxRecDepth 100000 in
theorem xpairs_any (K N : Nat) (lab : Nat → Lab) (V : Int × Int → Value) (M : Mdl) (w : World) (h : IxM w lab K N V M) (hl : M.cnt.length ≤ 1000000) : Calls Tryz.prog 32 #[.pointer (some ⟨K, 0, none⟩)] w fun e w' => RisRet w M.cnt e w' := by
  obtain ⟨wv, Kc, mc, b, E, h⟩ := h
  have c1 := h.cells.2.1
  have cA := dall_any Kc mc M.cnt w h.cts hl
  clear h
  go_enter Tryz.func32, Tryz.ntmps32
  go_wp2_with fail
  refine cA.mono ?_
  rintro e w1 ⟨r, rfl, ho, hb⟩
  have HO := Lib.hid ho; have HB := Lib.hid hb
  clear ho hb cA c1
  go_wp2
  go_ret
  exact ⟨_, rfl, HO.out, HB.out⟩
set_option maxRecDepth 100000 in
theorem xpos_any (K N : Nat) (lab : Nat → Lab) (V : Int × Int → Value) (M : Mdl) (w : World) (h : IxM w lab K N V M) : Calls Tryz.prog 29 #[.pointer (some ⟨K, 0, none⟩)] w fun e w' => e = .returned (.int .i64 M.pos) ∧ w' = w := by
  obtain ⟨wv, Kc, mc, b, E, h⟩ := h
  have c1 := h.cells.2.2.2.1
  clear h
  go_enter Tryz.func29, Tryz.ntmps29
  go_wp2
  go_ret
  exact ⟨rfl, rfl⟩
set_option maxRecDepth 100000 in
theorem xsyms_any (K N : Nat) (lab : Nat → Lab) (V : Int × Int → Value) (M : Mdl) (j : Nat) (X : List Int) (t : Int) (w : World) (h : IxM w lab K N V M) (hj : M.ws[j]? = some (X, t)) : Calls Tryz.prog 40 #[.pointer (some ⟨K, 0, none⟩), .int .i64 (j : Int)] w fun e w' => ∃ r, e = .returned r ∧ ownE intE w' w.heap.size r X ∧ Below w.heap.size w w' := by
  obtain ⟨gw, c, k, g, Y, v0, hjl, v1, v2, hs, _⟩ := h.word hj
  obtain ⟨n, hn⟩ : ∃ n, M.ws.length = n := ⟨_, rfl⟩
  rw [hn] at v0 hjl
  have cS := symbols_any k g X Y w hs
  have hn0 : ¬ (j : Int) < 0 := by omega
  have hn1 : decide ((n : Int) ≤ (j : Int)) = false := decide_eq_false (by omega)
  clear h hj hs hn
  go_enter Tryz.func40, Tryz.ntmps40
  go_wp2_with fail
  refine cS.mono ?_
  rintro e w1 ⟨r, rfl, ho, hb⟩
  have HO := Lib.hid ho; have HB := Lib.hid hb
  clear ho hb cS
  go_wp2
  go_ret
  exact ⟨_, rfl, HO.out, HB.out⟩
end Go.Proofs.YtnmacalbbmeedaaGreat
