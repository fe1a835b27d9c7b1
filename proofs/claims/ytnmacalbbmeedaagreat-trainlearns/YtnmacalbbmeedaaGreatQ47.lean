/- Texts in one: TlNew, TlWords. -/
import Derived.Test.YtnmacalbbmeedaaGreatQ46
import Derived.Test.YtnmacalbbmeedaaGreatQ38
import Derived.Test.YtnmacalbbmeedaaGreatQ42
import Derived.Test.YtnmacalbbmeedaaGreatQ45
import Derived.Test.YtnmacalbbmeedaaGreatQ44
/- A learner is made. -/
namespace Go.Proofs.YtnmacalbbmeedaaGreat
open Go.RowKit Go.Maps Go.Shelf

set_option maxRecDepth 100000 in
set_option maxHeartbeats 4000000 in
theorem tlhas_any (x : Value) (L : Bag) (lim : Int) (w : World) (hx : wordsAt w x L) (hL : L.length ≤ 1000000) (hf : Fits L) :
    Calls Tryz.prog 26 #[x, .int .i64 lim] w fun e w' => e = .returned (.bool (longW L lim)) ∧ Below w.heap.size w w' := by
  obtain ⟨a, cap, rfl, _⟩ := id hx
  obtain ⟨N, hN⟩ : ∃ N, L.length = N := ⟨_, rfl⟩
  rw [hN] at hx ⊢
  have HX := Lib.hid hx
  have HN := Lib.hid hN
  have hNl : N ≤ 1000000 := by omega
  have HF := Lib.hid hf
  have HST : Hid (RtRel L lim w (.int .i64 ((0 : Nat) : Int)) w) := Lib.hid ⟨0, rfl, Nat.zero_le _, fun j _ h => by omega, Below.refl _ _⟩
  clear hx hN hL hf
  go_enter Tryz.func26, Tryz.ntmps26
  go_wp2
  go_loopw [9] (fun x wr => RtRel L lim w x wr) (fun x _ => N - (intOf x).toNat)
  case atStart => exact HST.out
  case round =>
    clear HST
    obtain ⟨k, rfl, hk, hs, hbel⟩ := hrel
    rw [HN.out] at hk
    have HS := Lib.hid hs; have HB := Lib.hid hbel
    clear hs hbel
    by_cases hgo : k < N
    · have hgoI : (k : Int) < (N : Int) := by omega
      have hkL : k < L.length := by rw [HN.out]; exact hgo
      have hwk : IntKind.i64.wrap ((k : Int) + 1) = (k : Int) + 1 := IntWalk.i64_in _ (by omega)
      have hX := HX.out
      rw [← HN.out] at hX
      obtain ⟨ad, rfl⟩ : ∃ ad, a = some ad := by
        obtain ⟨_, _, e1, hc⟩ := hX
        obtain ⟨ad, e2, _⟩ := hc k hkL
        exact ⟨ad, (Value.slice.inj e1).1.trans e2⟩
      obtain ⟨t0, t1⟩ := words_at hX HB.out hkL
      obtain ⟨s, hsz⟩ : ∃ s, L[k].1 = s := ⟨_, rfl⟩
      obtain ⟨cc, hcc⟩ : ∃ s, L[k].2 = s := ⟨_, rfl⟩
      rw [hsz] at t0
      rw [hcc] at t1
      obtain ⟨w1, hw1⟩ : ∃ w1, wr.alloc (.cells #[.string s, .int .i64 cc] 56) = w1 := ⟨_, rfl⟩
      obtain ⟨bx, hbx⟩ : ∃ bx, wr.heap.size = bx := ⟨_, rfl⟩
      have hbx1 : w1.heap[bx]? = some (.cells #[.string s, .int .i64 cc] 56 (0, 0)) := by rw [← hw1, ← hbx]; exact heap_alloc_new _ _
      have HB1 : Hid (Below w.heap.size w w1) := Lib.hid (by rw [← hw1]; exact HB.out.alloc HB.out.size _)
      have b0 : w1.cell? ⟨bx, 0, none⟩ = some (.string s) := by rw [cell_of_row w1 bx _ _ _ (0, 0) hbx1]; rfl
      by_cases hl : lim < (s.size : Int)
      · have hd1 : decide (lim < (s.size : Int)) = true := decide_eq_true hl
        have HE : Hid (longW L lim = true) := Lib.hid (long_yes hkL (by rw [hsz]; exact hl))
        clear hX hsz hbx1
        go_wp2
        go_ret
        exact ⟨by rw [HE.out]; rfl, HB1.out⟩
      · have hd1 : decide (lim < (s.size : Int)) = false := decide_eq_false hl
        have HNX : Hid (RtRel L lim w (.int .i64 ((k : Int) + 1)) w1) := Lib.hid ⟨k + 1, by simp, by rw [HN.out]; omega, fun j hj hjk => by
          by_cases e : j < k
          · exact HS.out j hj e
          · obtain rfl : j = k := by omega
            rw [hsz]; omega, HB1.out⟩
        clear hX hsz hbx1
        go_wp2
        go_roundw
        case rel => exact HNX.out
        case measure => simp [intOf]; omega
    · have hgoI : ¬ (k : Int) < (N : Int) := by omega
      have HLO : Hid (longW L lim = false) := Lib.hid (long_no fun j hj => HS.out j hj (by rw [HN.out] at hj; omega))
      go_wp2
      go_ret
      exact ⟨by rw [HLO.out]; rfl, HB.out⟩
set_option maxRecDepth 100000 in
/-- Of the pairs of a new index. -/
theorem row0 {L : Bag} {M : Mdl} {had : Int × Int → Int → Prop} (hr : (checkOf L).2 = 0) (hg : GoodM M 256 had) (hw : M.ws = wsOf L) (hB : bytesOf L ≤ 300) :
    (∀ r ∈ keysC M.cnt, FitsPr r ∧ ThereP [] r ∧ FitsN (getC M.cnt r)) ∧ (keysC M.cnt).length ≤ 300 := by
  have hall : GoodW [] M.ws := by rw [hw]; exact good_start fun p hp => ((right_facts hr).1 p hp).2
  refine ⟨fun r h => ?_, ?_⟩
  · have h1 := (keys_get hg.cnt).1 h
    rw [hg.tells] at h1
    have ht := counted_there hall (r := r) (by omega)
    have h2 := tot_sane hall r
    have h3 := hg.wt
    exact ⟨fits_there ht (by simp), ht, by rw [hg.tells]; unfold FitsN; omega⟩
  · have h1 := cn_len hg.cnt hg.pos hg.tells
    have h2 := ws_bytes L
    rw [hw] at h1
    unfold keysC
    rw [List.length_map]
    omega
set_option maxRecDepth 100000 in
/-- Three new things side by side: none of the queue's blocks is the index's. -/
theorem t3_new {w5 : World} {K Kq N : Nat} {lab : Nat → Lab} {V : Int × Int → Value} {M : Mdl} {Sq : Nat → Prop} {w4 : World} {T : Nat} (hix : IxM w4 lab K N V M) (hT : ¬ T < w4.heap.size) (hb : Below w4.heap.size w4 w5) (hz : Lz w5 Sq Kq T (.slice none 0 0) none [] newQ) (hS : ∀ k, Sq k → w4.heap.size ≤ k ∨ mineT T (.slice none 0 0) none k) : Tr3 w5 (fun k => lab k ≠ .no ∨ Sq k) K Kq T N [] M newQ := by
  have hix5 : IxM w5 lab K N V M := by
    obtain ⟨wv, Kc, mc, b, E, h1⟩ := hix
    exact ⟨wv, Kc, mc, b, E, h1.turn (fun i hi _ => hb.block i hi) hb.size⟩
  refine t3_made hix5 hz fun k hk => ?_
  rcases hS k hk with h | h | h | h
  · exact hix.fresh (by omega)
  · exact hix.fresh (by omega)
  · cases h
  · cases h
set_option maxRecDepth 100000 in
set_option maxHeartbeats 8000000 in
theorem tlnew_any (x : Value) (L : Bag) (b d lim : Int) (w : World) (hx : wordsAt w x L) (hL : L.length ≤ 60) (hf : Fits L) (hby : bytesOf L ≤ 300) :
    Calls Tryz.prog 12 #[x, .agg #[.int .i64 b, .int .i64 d, .int .i64 lim]] w fun e w' => Below w.heap.size w w' ∧ ((errT L b d lim ≠ 0 ∧ e = .returned (.tuple #[.pointer none, .int .i64 (errT L b d lim)])) ∨
      (errT L b d lim = 0 ∧ ∃ K S, e = .returned (.tuple #[.pointer (some ⟨K, 0, none⟩), .int .i64 0]) ∧ LrnO L b d w' S K [] ∧ ∀ k, S k → w.heap.size ≤ k)) := by
  obtain ⟨a, cap, rfl, _⟩ := id hx
  obtain ⟨N, hN⟩ : ∃ N, L.length = N := ⟨_, rfl⟩
  obtain ⟨M0, hM0⟩ : ∃ M, w.heap.size = M := ⟨_, rfl⟩
  obtain ⟨wa, hwa⟩ : ∃ wa, w.alloc (.cells #[.int .i64 b, .int .i64 d, .int .i64 lim] 24) = wa := ⟨_, rfl⟩
  have hba : wa.heap[M0]? = some (.cells #[.int .i64 b, .int .i64 d, .int .i64 lim] 24 (0, 0)) := by rw [← hwa, ← hM0]; exact heap_alloc_new w _
  have hbe : Below w.heap.size w wa := by rw [← hwa]; exact (Below.refl _ w).alloc (Nat.le_refl _) _
  have hlt : M0 < wa.heap.size := (Array.getElem?_eq_some_iff.1 hba).1
  rw [hN] at hx ⊢
  obtain ⟨z, hz⟩ : ∃ z, paramsOf b d lim = z := ⟨_, rfl⟩
  have cP := params_any b d lim wa
  rw [hz] at cP
  have HX := Lib.hid hx
  have HN := Lib.hid hN
  have HF := Lib.hid hf
  have HBY := Lib.hid (And.intro hby hL)
  have HZ := Lib.hid hz
  have HBE := Lib.hid hbe
  have HM := Lib.hid hM0
  have HCB : Hid (∀ W, Below wa.heap.size wa W → W.cell? ⟨M0, 0, none⟩ = some (.int .i64 b) ∧ W.cell? ⟨M0, 1, none⟩ = some (.int .i64 d) ∧ W.cell? ⟨M0, 2, none⟩ = some (.int .i64 lim)) := Lib.hid fun W hb => by
    have h := (hb.block M0 hlt).trans hba
    exact ⟨by rw [cell_of_row W M0 _ _ _ (0, 0) h]; rfl, by rw [cell_of_row W M0 _ _ _ (0, 0) h]; rfl, by rw [cell_of_row W M0 _ _ _ (0, 0) h]; rfl⟩
  obtain ⟨b0, b1, b2⟩ := HCB.out wa (Below.refl _ _)
  clear hx hN hf hby hz hba hbe hlt hL
  go_enter Tryz.func12, Tryz.ntmps12
  go_wp2_with fail
  refine cP.mono ?_
  rintro e w1 ⟨rfl, hb1⟩
  have HB1 := Lib.hid hb1
  clear cP b0 b1 b2 hb1
  by_cases h0 : z = 0
  · subst h0
    obtain ⟨b0, b1, b2⟩ := HCB.out w1 HB1.out
    have HBW1 : Hid (Below w.heap.size w w1) := Lib.hid (HBE.out.trans (HB1.out.mono HBE.out.size))
    have cH := tlhas_any (.slice a N cap) L lim w1 (HX.out.below HBW1.out (Nat.le_refl _)) (by have := HBY.out.2; omega) HF.out
    obtain ⟨lg, hlg⟩ : ∃ lg, longW L lim = lg := ⟨_, rfl⟩
    have HLG := Lib.hid hlg
    rw [hlg] at cH
    clear hlg
    go_wp2_with fail
    refine cH.mono ?_
    rintro e w2 ⟨rfl, hb2⟩
    have HBW2 : Hid (Below w.heap.size w w2) := Lib.hid (HBW1.out.trans (hb2.mono HBW1.out.size))
    have HB2 : Hid (Below wa.heap.size wa w2) := Lib.hid (HB1.out.trans (hb2.mono HB1.out.size))
    clear cH hb2 b0 b1 b2
    cases lg with
    | true =>
      have HE : Hid (errT L b d lim = 4) := Lib.hid (err_long HZ.out HLG.out)
      go_wp2
      go_ret2
      exact ⟨HBW2.out, .inl ⟨by rw [HE.out]; decide, by rw [HE.out]; rfl⟩⟩
    | false =>
      have HE : Hid (errT L b d lim = (checkOf L).2) := Lib.hid (err_check HZ.out HLG.out)
      have cN := xnew_any (.slice a N cap) L w2 (HX.out.below HBW2.out (Nat.le_refl _)) HF.out (by have := HBY.out.2; omega) (by have := HBY.out.1; omega)
      obtain ⟨er, her⟩ : ∃ er, (checkOf L).2 = er := ⟨_, rfl⟩
      have HER := Lib.hid her
      unfold NewRet at cN
      rw [her] at cN HE
      clear her
      go_wp2_with fail
      refine cN.mono ?_
      rintro e w3 ⟨hb3, hcase⟩
      have HBW3 : Hid (Below w.heap.size w w3) := Lib.hid (HBW2.out.trans (hb3.mono HBW2.out.size))
      have HB3 : Hid (Below wa.heap.size wa w3) := Lib.hid (HB2.out.trans (hb3.mono HB2.out.size))
      clear cN
      rcases hcase with ⟨hne, rfl⟩ | ⟨rfl, K, lab, V, M, rfl, hix, hgm, hws, hps, htu, hlab⟩
      · have hne' : decide (er = 0) = false := decide_eq_false hne
        have hneb : (er == 0) = false := by simp [hne]
        have HNE := Lib.hid hne
        clear hne hb3
        go_wp2
        go_ret2
        exact ⟨HBW3.out, .inl ⟨by rw [HE.out]; exact HNE.out, by rw [HE.out]; rfl⟩⟩
      · have HER0 : Hid (errT L b d lim = 0) := Lib.hid (by rw [HE.out])
        have HIX := Lib.hid hix; have HGM := Lib.hid hgm
        have HFX := Lib.hid (And.intro hws (And.intro hps (And.intro htu hlab)))
        obtain ⟨T, hT⟩ : ∃ T, w3.heap.size = T := ⟨_, rfl⟩
        obtain ⟨w4, hw4⟩ : ∃ w4, w3.alloc (.cells #[.slice none 0 0, .map none] 107) = w4 := ⟨_, rfl⟩
        have cY : Calls Tryz.prog 28 #[] w3 fun e w' => e = .returned (.pointer (some ⟨T, 0, none⟩)) ∧ w' = w4 := (snew_any w3).mono fun e w' h => ⟨h.1.trans (by rw [hT]), h.2.trans hw4⟩
        have hst4 : Stab w4 T (.slice none 0 0) none [] := by rw [← hw4, ← hT]; exact new_stab w3
        have hb34 : Below w3.heap.size w3 w4 := by rw [← hw4]; exact (Below.refl _ w3).alloc (Nat.le_refl _) _
        have hix4 : IxM w4 lab K 200000 V M := by
          obtain ⟨wv, Kc, mc, b, E, h1⟩ := hix
          exact ⟨wv, Kc, mc, b, E, h1.turn (fun i hi _ => hb34.block i hi) hb34.size⟩
        have HIX4 := Lib.hid hix4; have HST4 := Lib.hid hst4
        have HBW4 : Hid (Below w.heap.size w w4) := Lib.hid (HBW3.out.trans (hb34.mono HBW3.out.size))
        have HB4 : Hid (Below wa.heap.size wa w4) := Lib.hid (HB3.out.trans (hb34.mono HB3.out.size))
        have HT3 : Hid (w3.heap.size = T) := Lib.hid hT
        have HT4 : Hid (T < w4.heap.size) := Lib.hid (Array.getElem?_eq_some_iff.1 hst4.1).1
        have HC4 : Hid (∀ W, Below w4.heap.size w4 W → W.cell? ⟨M0, 0, none⟩ = some (.int .i64 b) ∧ W.cell? ⟨M0, 1, none⟩ = some (.int .i64 d)) := Lib.hid fun W hb => by
          have h := HCB.out W (HB4.out.trans (hb.mono HB4.out.size))
          exact ⟨h.1, h.2.1⟩
        have HC5 : Hid (∀ W o, Below w4.heap.size w4 W → (W.alloc o).cell? ⟨M0, 0, none⟩ = some (.int .i64 b) ∧ (W.alloc o).cell? ⟨M0, 1, none⟩ = some (.int .i64 d)) := Lib.hid fun W o hb => HC4.out _ (hb.alloc hb.size o)
        have HPOS : Hid (∀ W, Below w4.heap.size w4 W → Calls Tryz.prog 29 #[.pointer (some ⟨K, 0, none⟩)] W fun e w' => e = .returned (.int .i64 (bytesOf L : Int)) ∧ w' = W) := Lib.hid fun W hb => by
          rw [← HFX.out.2.1]
          obtain ⟨wv, Kc, mc, b, E, h1⟩ := HIX4.out
          exact xpos_any K 200000 lab V M W ⟨wv, Kc, mc, b, E, h1.turn (fun i hi _ => hb.block i hi) hb.size⟩
        have HZN : Hid (∀ W, Below w4.heap.size w4 W → Calls Tryz.prog 30 #[.pointer (some ⟨T, 0, none⟩)] W fun e w' => ∃ Kq Sq, e = .returned (.pointer (some ⟨Kq, 0, none⟩)) ∧ Lz w' Sq Kq T (.slice none 0 0) none [] newQ ∧ Below w4.heap.size w4 w' ∧ ∀ k, Sq k → w4.heap.size ≤ k ∨ mineT T (.slice none 0 0) none k) := Lib.hid fun W hb => by
          refine (znew_any T (.slice none 0 0) none [] W (HST4.out.below hb) (by simp)).mono ?_
          rintro e w' ⟨Kq, Sq, e1, h1, h2, h3⟩
          exact ⟨Kq, Sq, e1, h1, hb.trans (h2.mono hb.size), fun k hk => (h3 k hk).imp (fun h => Nat.le_trans hb.size h) id⟩
        have hb0 : Below w4.heap.size w4 w4 := Below.refl _ _
        obtain ⟨z0, z1⟩ := HC4.out w4 hb0
        have HB34 := Lib.hid hb34
        clear hix hgm hws hps htu hlab hst4 hb34 hix4 hT hw4 hb3
        go_wp2_with fail
        refine cY.mono ?_
        rintro e w' ⟨rfl, rfl⟩
        clear cY
        go_wp2_with fail
        go_region_held3 (fun w' => w'.cell? ⟨M0, 0, none⟩ = some (.int .i64 b) ∧ w'.cell? ⟨M0, 1, none⟩ = some (.int .i64 d))
          (first | with_reducible exact ⟨z0, z1⟩ | with_reducible exact HC4.out _ (by assumption) | with_reducible exact HC4.out _ (Below.drew (by assumption)) | with_reducible exact HC5.out _ _ (by assumption) | with_reducible exact HC5.out _ _ (Below.drew (by assumption)))
          (first
            | (go_at_call 29
               refine (HPOS.out _ (by first | assumption | exact Below.drew (by assumption))).mono ?_
               rintro e w9 ⟨rfl, rfl⟩)
            | (go_at_call 30
               refine (HZN.out _ (by first | assumption | exact Below.drew (by assumption))).mono ?_
               rintro e w5 ⟨Kq, Sq, rfl, hz, hb5, hS⟩
               have HZ5 := Lib.hid hz; have HS5 := Lib.hid hS
               clear hz hS))
        obtain ⟨Kl, hKl⟩ : ∃ n, w5.heap.size = n := ⟨_, rfl⟩
        obtain ⟨w6, hw6⟩ : ∃ w6, w5.alloc (.cells #[.int .i64 b, .int .i64 d, .int .i64 (bytesOf L : Int), .int .i64 0, .pointer (some ⟨T, 0, none⟩), .pointer (some ⟨K, 0, none⟩), .pointer (some ⟨Kq, 0, none⟩)] 72) = w6 := ⟨_, rfl⟩
        have hK6 : w6.heap[Kl]? = some (lrnV K T Kq b d (bytesOf L : Int) 0) := by rw [← hw6, ← hKl]; exact heap_alloc_new w5 _
        have hb56 : Below w5.heap.size w5 w6 := by rw [← hw6]; exact (Below.refl _ w5).alloc (Nat.le_refl _) _
        have h35 : Below w3.heap.size w3 w5 := HB34.out.trans (hb5.mono HB34.out.size)
        have ht5 := t3_new HIX.out (by rw [HT3.out]; omega) h35 HZ5.out (fun k hk => (HS5.out k hk).imp (fun h => Nat.le_trans HB34.out.size h) id)
        have ht6 := ht5.below hb56
        have hKS : ¬ (lab Kl ≠ .no ∨ Sq Kl) := fun e => by have := ht5.lt Kl e; omega
        have hlow : ∀ k, (lab k ≠ .no ∨ Sq k) → w.heap.size ≤ k := fun k hk => by
          have h1 := HBW2.out.size
          have h2 := HBW3.out.size
          have h4 := HBW4.out.size
          rcases hk with hk | hk
          · exact Classical.byContradiction fun e => hk (HFX.out.2.2.2 k (by omega))
          · rcases HS5.out k hk with h | h | h | h
            · omega
            · have := HT3.out; omega
            · cases h
            · cases h
        obtain ⟨hr1, hr2⟩ := row0 HER.out HGM.out HFX.out.1 HBY.out.1
        have hcl : M.cnt.length ≤ 300 := by
          have h := hr2
          unfold keysC at h
          rw [List.length_map] at h
          exact h
        have cQ := t3_pairs ht6 (by omega)
        have HT6 := Lib.hid ht6; have HK6 := Lib.hid hK6; have HKS := Lib.hid hKS; have HLOW := Lib.hid hlow
        have HR1 := Lib.hid hr1; have HR2 := Lib.hid hr2
        have HT5L : Hid (∀ k, (lab k ≠ .no ∨ Sq k) → k < w5.heap.size) := Lib.hid fun k hk => ht5.lt k hk
        have hBW5 : Below w.heap.size w w5 := HBW4.out.trans (hb5.mono HBW4.out.size)
        have HBW6 : Hid (Below w.heap.size w w6) := Lib.hid (hBW5.trans (hb56.mono hBW5.size))
        have HS56 : Hid (w5.heap.size ≤ w6.heap.size) := Lib.hid hb56.size
        have HKLE : Hid (w.heap.size ≤ Kl) := Lib.hid (by rw [← hKl]; exact hBW5.size)
        rw [hw6]
        clear hb56 h35 ht5 ht6 hKS hlow hr1 hr2 hcl hBW5 hw6 hb5 hK6 z0 z1 hb0
        go_wp2_with fail
        refine cQ.mono ?_
        rintro e w7 ⟨v, rfl, ho, hb7⟩
        have hK7 := (hb7.block Kl (Array.getElem?_eq_some_iff.1 HK6.out).1).trans HK6.out
        have ht7 := HT6.out.below hb7
        have HO := Lib.hid ho
        have cP := tlput_any (K := Kl) v (keysC M.cnt) ht7 hK7 HKS.out (fun W S' hst => by
          refine (HO.out.kept fun g hg => ?_).reads
          have h1 := HO.out.lt g hg
          exact hst.kept.block g h1.2 fun e => by have := HT5L.out g e; have := HS56.out; omega) HR1.out (by have := HR2.out; show (0 : Int) + _ ≤ _; omega) (by have := HR2.out; omega)
        have HK7 := Lib.hid hK7
        have HBW7 : Hid (Below w.heap.size w w7) := Lib.hid (HBW6.out.trans (hb7.mono HBW6.out.size))
        clear cQ ho hb7 hK7 ht7
        go_wp2_with fail
        refine cP.mono ?_
        rintro e w8 ⟨rfl, S8, ht8, hs8⟩
        rw [List.take_length] at ht8
        have hK8 := (hs8.kept.block Kl (Array.getElem?_eq_some_iff.1 HK7.out).1 HKS.out).trans HK7.out
        have hlow8 : ∀ k, S8 k → w.heap.size ≤ k := fun k hk => by
          by_cases e : k < w7.heap.size
          · exact HLOW.out k (hs8.out k hk e)
          · have := HBW7.out.size; omega
        have HBW8 : Hid (Below w.heap.size w w8) := Lib.hid (Below.kept HBW7.out hs8.kept HLOW.out HBW7.out.size)
        have HLO : Hid (LrnO L b d w8 (fun k => k = Kl ∨ S8 k) Kl []) := Lib.hid ⟨K, Kq, T, 200000, [], M, _, S8, hK8, ht8, TrAll.start HER.out HGM.out HFX.out.1 HFX.out.2.1 HFX.out.2.2.1, by simp; omega, fun e => HKS.out (hs8.out Kl e (Array.getElem?_eq_some_iff.1 HK7.out).1), fun _ h => h, fun k h => by
          rcases h with rfl | h
          · exact (Array.getElem?_eq_some_iff.1 hK8).1
          · exact ht8.lt k h⟩
        have HLW : Hid (∀ k, (k = Kl ∨ S8 k) → w.heap.size ≤ k) := Lib.hid fun k h => by
          rcases h with rfl | h
          · exact HKLE.out
          · exact hlow8 k h
        clear cP ht8 hs8 hK8 hlow8
        go_wp2
        go_ret2
        exact ⟨HBW8.out, .inr ⟨HER0.out, Kl, _, rfl, HLO.out, HLW.out⟩⟩
  · have HE : Hid (errT L b d lim = z) := Lib.hid (by rw [err_params (by rw [HZ.out]; exact h0)]; exact HZ.out)
    have hneb : (z == 0) = false := by simp [h0]
    have hne' : decide (z = 0) = false := decide_eq_false h0
    have H0 := Lib.hid h0
    have HBW1 : Hid (Below w.heap.size w w1) := Lib.hid (HBE.out.trans (HB1.out.mono HBE.out.size))
    clear h0
    go_wp2
    go_ret2
    exact ⟨HBW1.out, .inl ⟨by rw [HE.out]; exact H0.out, by rw [HE.out]; rfl⟩⟩
end Go.Proofs.YtnmacalbbmeedaaGreat
/- A learner's words: each word as texts, behind what was learnt. -/
namespace Go.Proofs.YtnmacalbbmeedaaGreat
open Go.RowKit Go.Maps Go.Shelf

variable {w w' : World} {S : Nat → Prop} {Kx Kq T N K : Nat} {J : List Joint} {M : Mdl} {q : Qm} {L : Bag} {b d ps c : Int} {ms : List Mg}
def lenV : Value → Nat
  | .slice _ n _ => n
  | _ => 0
set_option maxRecDepth 100000 in
theorem tlw_len : ∀ {ws : List Wd} {x : Wd}, x ∈ ws → (x.1.length : Int) ≤ lenW ws
  | [], x, h => by simp at h
  | y :: r, x, h => by
    have e : lenW (y :: r) = (y.1.length : Int) + lenW r := rfl
    rcases List.mem_cons.1 h with h | h
    · have := lenW_pos r; rw [e, h]; omega
    · have := tlw_len h; rw [e]; omega
set_option maxRecDepth 100000 in
theorem tlw_fits {X : List Int} (h : ThereW J X) (hJ : J.length ≤ 1000000) : ∀ y ∈ X, -9223372036854775808 ≤ y ∧ y ≤ 9223372036854775807 := fun y hy => by
  have h1 := there_iff.1 (h y hy)
  rw [texts_len] at h1
  omega
def WsRel (WW : List (List ByteArray)) (w : World) (v : Value) (wr : World) : Prop := ∃ k : Nat, k ≤ WW.length ∧ rowsO wr w.heap.size v (WW.take k) ∧ Below w.heap.size w wr
set_option maxRecDepth 100000 in
set_option maxHeartbeats 8000000 in
theorem tlwords_any (h : Tr3 w S Kx Kq T N J M q) (ha : TrAll L d N J M q ms) (hbox : w.heap[K]? = some (lrnV Kx T Kq b d ps c)) (hB : bytesOf L ≤ 300) (hL : L.length ≤ 60) :
    Calls Tryz.prog 18 #[.pointer (some ⟨K, 0, none⟩)] w fun e w' => ∃ v, e = .returned v ∧ rowsT w' v (runT (startW L) ms) ∧ Below w.heap.size w w' := by
  have hsm := ha.small hB
  have hjl := hsm.jl
  have hfew := hsm.few
  have hJ : J.length ≤ 1000 := by omega
  obtain ⟨WW, hWW⟩ : ∃ WW, txWs J M.ws = WW := ⟨_, rfl⟩
  have HRW : Hid (runT (startW L) ms = WW) := Lib.hid (by rw [← ha.st.words, hWW])
  obtain ⟨n, hn⟩ : ∃ n, M.ws.length = n := ⟨_, rfl⟩
  have hWn : WW.length = n := by rw [← hWW, ← hn]; simp [txWs]
  have hn60 : n ≤ 60 := by have := hsm.wds; omega
  have HWD : Hid (∀ k, k < n → ∃ X t, M.ws[k]? = some (X, t) ∧ X ≠ [] ∧ X.length ≤ 300 ∧ (∀ y ∈ X, -9223372036854775808 ≤ y ∧ y ≤ 9223372036854775807) ∧ WW[k]? = some (txW J X)) := Lib.hid fun k hk => by
    have hk' : k < M.ws.length := by omega
    have hmem := List.getElem_mem hk'
    refine ⟨M.ws[k].1, M.ws[k].2, List.getElem?_eq_getElem hk', ha.full _ hmem, ?_, tlw_fits (ha.st.all _ hmem).1 (by omega), ?_⟩
    · have h1 := tlw_len hmem
      have h2 := hsm.len
      omega
    · rw [← hWW]; unfold txWs; rw [List.getElem?_map, List.getElem?_eq_getElem hk']; rfl
  have HT := Lib.hid h; have HBX := Lib.hid hbox
  have HKL := Lib.hid (Array.getElem?_eq_some_iff.1 hbox).1
  have HN := Lib.hid hn; have HWN := Lib.hid hWn
  have HIX : Hid (∀ W, Below w.heap.size w W → W.cell? ⟨K, 5, none⟩ = some (.pointer (some ⟨Kx, 0, none⟩))) := Lib.hid fun W hb => (lrnC ((hb.block K HKL.out).trans hbox)).ix
  have HST : Hid (WsRel WW w (.slice none 0 0) w) := Lib.hid ⟨0, Nat.zero_le _, rowsO.nil _ _, Below.refl _ _⟩
  rw [HRW.out]
  clear h ha hbox hB hL hsm hjl hfew hWW hn hWn
  go_enter Tryz.func18, Tryz.ntmps18
  go_wp2
  go_loopw [3] (fun v wr => WsRel WW w v wr) (fun v _ => n + 1 - lenV v)
  case atStart => exact HST.out
  case round =>
    clear HST
    obtain ⟨k, hk, hr, hb⟩ := hrel
    rw [HWN.out] at hk
    have hkl : (WW.take k).length = k := by rw [List.length_take, HWN.out]; omega
    obtain ⟨va, vc, hv⟩ := hr.form
    rw [hkl] at hv
    subst hv
    have HB := Lib.hid hb; have HRO := Lib.hid hr; have HKL2 := Lib.hid hkl
    have z5 := HIX.out wr hb
    clear hr hkl hb
    by_cases hgo : k < n
    · obtain ⟨X, t, f1, f2, f3, f4, f5⟩ := HWD.out k hgo
      have cS := t3_syms (HT.out.below HB.out) f1
      obtain ⟨nx, hnx⟩ : ∃ n, X.length = n := ⟨_, rfl⟩
      have hnx0 : nx ≠ 0 := by rw [← hnx]; exact fun e => f2 (List.length_eq_zero_iff.1 e)
      have HNX := Lib.hid hnx
      have HF := Lib.hid (And.intro f1 (And.intro f2 (And.intro f3 (And.intro f4 f5))))
      clear f1 f2 f3 f4 f5 hnx
      go_wp2_with fail
      refine cS.mono ?_
      rintro e w1 ⟨r, rfl, ho, hb1⟩
      obtain ⟨ra, rc, hrf, _⟩ := ho.form
      rw [HNX.out] at hrf
      subst hrf
      have HO := Lib.hid ho
      have HB1 := Lib.hid (HB.out.trans (hb1.mono HB.out.size))
      have HRO1 := Lib.hid (HRO.out.below hb1)
      have hd : decide (nx = 0) = false := decide_eq_false hnx0
      have hd2 : decide ((nx : Int) = 0) = false := decide_eq_false (by omega)
      have hd3 : ((nx : Int) == 0) = false := by simp [hnx0]
      have cX := tltexts_any (.slice ra nx rc) X (HT.out.below HB1.out) ((HB1.out.block K HKL.out).trans HBX.out) HO.out.reads (by have := HF.out.2.2.1; omega) (by omega) HF.out.2.2.2.1
      clear cS ho hb1 z5
      go_wp2_with fail
      refine cX.mono ?_
      rintro e w2 ⟨r2, rfl, ho2, hb2⟩
      have HB2 := Lib.hid (HB1.out.trans (hb2.mono HB1.out.size))
      have ho3 := ho2.mono (b' := w.heap.size) HB1.out.size
      obtain ⟨RW, hRW⟩ : ∃ W, txW J X = W := ⟨_, rfl⟩
      rw [hRW] at ho3
      have hW : WW.take (k + 1) = WW.take k ++ [RW] := by rw [List.take_add_one, HF.out.2.2.2.2, hRW]; rfl
      have hro := HRO1.out.below hb2
      obtain ⟨ra2, rc2, erf, _⟩ := ho3.form
      subst erf
      obtain ⟨E, e1, e2, e3⟩ := hro
      have HW := Lib.hid hW
      have HE1 := Lib.hid e1
      have HE2 : Hid (ownE slTE (w2.alloc (.cells #[.slice ra2 RW.length rc2] 52)) w.heap.size (.slice va k vc) E) := Lib.hid (e2.alloc _)
      have HE3 : Hid (∀ i (h : i < E.length) (h' : i < (WW.take k).length), ownE textE (w2.alloc (.cells #[.slice ra2 RW.length rc2] 52)) w.heap.size (hsV E[i]) (WW.take k)[i]) := Lib.hid fun i a b => (e3 i a b).alloc _
      have HRB : Hid (ownE textE (w2.alloc (.cells #[.slice ra2 RW.length rc2] 52)) w.heap.size (hsV (ra2, RW.length, rc2)) RW) := Lib.hid (ho3.alloc _)
      have HEL : Hid (eltsAt slTE (w2.alloc (.cells #[.slice ra2 RW.length rc2] 52)) (.slice (some ⟨w2.heap.size, 0, none⟩) 1 1) [(ra2, RW.length, rc2)]) := Lib.hid (one_elt slTE w2 _)
      have HB5 : Hid (Below w.heap.size w (w2.alloc (.cells #[.slice ra2 RW.length rc2] 52))) := Lib.hid (HB2.out.alloc HB2.out.size _)
      clear cX ho2 hb2 ho3 hRW hW e1 e2 e3
      go_wp2_with (at_builtin
                   refine wpList_append_elts slTE rfl (.tmp 18) (.tmp 22) rfl w.heap.size (.slice va k vc) _ E [(ra2, RW.length, rc2)] rfl rfl HE2.out HEL.out (someNone _ _ _) (by rw [HE1.out, HKL2.out]; simp only [List.length_singleton]; omega) HB5.out.size ?_
                   intro r6 w6 ho6 hg6 _
                   have HR6 := Lib.hid (rowsO.app HE1.out HE2.out HE3.out HRB.out ho6 hg6)
                   have HB6 : Hid (Below w.heap.size w w6) := Lib.hid (HB5.out.grown hg6 HB5.out.size fun g e => (HE2.out.lt g e).1)
                   have hrl : lenV r6 = k + 1 := by
                     obtain ⟨ra6, rc6, er6, _⟩ := ho6.form
                     rw [er6]; show (E ++ [_]).length = k + 1
                     rw [List.length_append, HE1.out, HKL2.out]; rfl
                   clear ho6 hg6)
      go_roundw
      case rel => exact ⟨k + 1, by rw [HWN.out]; omega, by rw [HW.out]; exact HR6.out, HB6.out⟩
      case measure => rw [hrl]; simp only [lenV]; omega
    · have hkn : k = n := by omega
      subst hkn
      have cS := t3_symsOut (HT.out.below HB.out) (z := (k : Int)) (.inr (by rw [HN.out]; exact Int.le_refl _))
      have hr := HRO.out
      rw [List.take_of_length_le (Nat.le_of_eq HWN.out)] at hr
      have HR2 := Lib.hid hr.reads
      clear hr
      go_wp2_with fail
      refine cS.mono ?_
      rintro e w1 ⟨rfl, rfl⟩
      clear cS z5
      go_wp2
      go_ret
      exact ⟨_, rfl, HR2.out, HB.out⟩
end Go.Proofs.YtnmacalbbmeedaaGreat
