/- The walk of PairBest. -/
import Derived.Test.YthjblamfkfclhaaPBest
import Derived.Test.YthjblamfkfclhaaOrderWalk
namespace Go.Proofs.Ythjblamfkfclhaa
open Go.RowKit Go.Maps Go.Shelf
open Go.Sort (grow SWO)

theorem items_g {w wr : World} {L : List Item} {ad : Addr} {n cap : Nat} (h : eltsAt itemE w (.slice (some ad) n cap) L) (hb : Below w.heap.size w wr) {k : Nat} (hk : k < L.length) {p q c : Int} (hp : itOf L k = (p, q, c)) :
    (∀ m os, (grow (wr.drewN m) os).cell? (ad.add (k * 3)) = some (.int .i64 p)) ∧ (∀ m os, (grow (wr.drewN m) os).cell? ⟨(ad.add (k * 3)).block, (ad.add (k * 3)).off + 1, none⟩ = some (.int .i64 q)) ∧ ∀ m os, (grow (wr.drewN m) os).cell? ⟨(ad.add (k * 3)).block, (ad.add (k * 3)).off + 2, none⟩ = some (.int .i64 c) := by
  have key : ∀ m os, Below w.heap.size w (grow (wr.drewN m) os) := fun m os => hb.trans ((Grown.of wr m os).below.mono hb.size)
  rw [it_at hk] at hp
  refine ⟨fun m os => ?_, fun m os => ?_, fun m os => ?_⟩
  · have := (items_at h (key m os) hk).1; rwa [hp] at this
  · have := (items_at h (key m os) hk).2.1; rwa [hp] at this
  · have := (items_at h (key m os) hk).2.2; rwa [hp] at this
theorem box_g {wr : World} {N : Nat} {p q c : Int} (h : Box wr N p q c) :
    (∀ m os, (grow (wr.drewN m) os).cell? ⟨N, 0, none⟩ = some (.int .i64 p)) ∧ (∀ m os, (grow (wr.drewN m) os).cell? ⟨N, 1, none⟩ = some (.int .i64 q)) ∧ ∀ m os, (grow (wr.drewN m) os).cell? ⟨N, 2, none⟩ = some (.int .i64 c) :=
  ⟨fun m os => (Grown.of wr m os).cell h.1, fun m os => (Grown.of wr m os).cell h.2.1, fun m os => (Grown.of wr m os).cell h.2.2⟩
theorem srow_g {w wr : World} {g n cap : Nat} {M : List Item} (h : eltsAt itemE w (.slice (some ⟨g, 0, none⟩) n cap) M) (hb : Below w.heap.size w wr) {k : Nat} (hk : k < M.length) {p q c : Int} (hp : M[k] = (p, q, c)) :
    (∀ m os, (grow (wr.drewN m) os).cell? ⟨g, k * 3, none⟩ = some (.int .i64 p)) ∧ (∀ m os, (grow (wr.drewN m) os).cell? ⟨g, k * 3 + 1, none⟩ = some (.int .i64 q)) ∧ ∀ m os, (grow (wr.drewN m) os).cell? ⟨g, k * 3 + 2, none⟩ = some (.int .i64 c) := by
  have key : ∀ m os, Below w.heap.size w (grow (wr.drewN m) os) := fun m os => hb.trans ((Grown.of wr m os).below.mono hb.size)
  refine ⟨fun m os => ?_, fun m os => ?_, fun m os => ?_⟩
  · have := elts_at h (key m os) hk 0 (.int .i64 p) (by rw [hp]; rfl); rwa [add_zero_off] at this
  · have := elts_at h (key m os) hk 1 (.int .i64 q) (by rw [hp]; rfl); rwa [add_zero_off] at this
  · have := elts_at h (key m os) hk 2 (.int .i64 c) (by rw [hp]; rfl); rwa [add_zero_off] at this
theorem bestB {w wr : World} {K K2 : Nat} {J J2 : List Joint} (h : Both w K K2 J J2 wr) (hJ : J.length ≤ 900000) {x : Value} {L : List Item} (hx : eltsAt itemE wr x L) (h0 : 0 < L.length) (hL : L.length < 1000000) (hf : ∀ q ∈ L, FitsI q) :
    Calls Try.prog 10 #[.pointer (some ⟨K, 0, none⟩), x] wr fun e w' => BestRet J L wr e w' := by
  obtain ⟨v, b, v2, p2, h1, h2, h3, h4⟩ := h
  exact pbest_some K v b J x L wr h1 (by omega) hx h0 hL hf
theorem sortB {w wr : World} {K K2 : Nat} {J J2 : List Joint} (h : Both w K K2 J J2 wr) (hJ : J.length ≤ 900000) {x : Value} {L : List Item} (hx : eltsAt itemE wr x L) (hnil : nilNone x) (hL : L.length < 1000000) (hf : ∀ q ∈ L, FitsI q) :
    Calls Try.prog 9 #[.pointer (some ⟨K, 0, none⟩), x] wr fun e w' => SortRet J L wr e w' := by
  obtain ⟨v, b, v2, p2, h1, h2, h3, h4⟩ := h
  exact psort_any K v b J x L wr h1 (by omega) hx hnil hL hf
theorem betterG {w wr : World} {K K2 : Nat} {J J2 : List Joint} (h : Both w K K2 J J2 wr) (hJ : J.length ≤ 900000) {p q n r s m : Int} (hx : FitsI (p, q, n)) (hy : FitsI (r, s, m)) (k : Nat) (os : Array Obj) :
    Calls Try.prog 13 #[.pointer (some ⟨K, 0, none⟩), .agg #[.int .i64 p, .int .i64 q, .int .i64 n], .agg #[.int .i64 r, .int .i64 s, .int .i64 m]] (grow (wr.drewN k) os) fun e w'' => e = .returned (.bool (betterOf J (p, q, n) (r, s, m))) ∧ ∃ p : GrownBy, w'' = grow (wr.drewN p.n) p.os :=
  Calls.grown_of (betterB (h.grown (Grown.of wr k os)) hJ hx hy)
/-- What is lexically behind isn't better. -/
theorem lex_not {J : List Joint} {L : List Item} {i j : Nat} (h : lex (ltI J L) i j = true) : betterOf J (itOf L j) (itOf L i) = false := by
  have := lex_asymm (ltI_swo J L) h
  unfold lex at this
  simp only [Bool.or_eq_false_iff] at this
  exact this.1
theorem best_not {J : List Joint} {L : List Item} {b j : Nat} (h : BestUpto J L L.length b) (hj : j < L.length) : betterOf J (itOf L j) (itOf L b) = false := by
  by_cases e : j = b
  · rw [e]; exact better_irrefl _
  · exact lex_not (h.2 j hj e)
theorem Sorted.len {J : List Joint} {L : List Item} {d : List Nat} (h : Sorted J L d) : d.length = L.length := by
  have := h.1.length_eq; simpa using this
theorem Sorted.lt {J : List Joint} {L : List Item} {d : List Nat} (h : Sorted J L d) {k : Nat} (hk : k < d.length) : d[k] < L.length := by
  have := h.1.mem_iff.1 (List.getElem_mem hk)
  simpa using this
theorem sorted_first {J : List Joint} {L : List Item} {d : List Nat} {b : Nat} (h : Sorted J L d) (hb : BestUpto J L L.length b) (h0 : 0 < d.length) : d[0] = b := by
  by_cases e : d[0] = b
  · exact e
  · exfalso
    have hm : b ∈ d := h.1.mem_iff.2 (by simpa using hb.1)
    obtain ⟨j, hj, hjb⟩ := List.getElem_of_mem hm
    have hj0 : 0 < j := by
      rcases Nat.eq_zero_or_pos j with e2 | e2
      · subst e2; exact absurd hjb e
      · exact e2
    have h1 := List.pairwise_iff_getElem.1 h.2 0 j h0 hj hj0
    rw [hjb] at h1
    have h2 := hb.2 d[0] (h.lt h0) e
    rw [lex_asymm (ltI_swo J L) h1] at h2
    cases h2
theorem sorted_not {J : List Joint} {L : List Item} {d : List Nat} (h : Sorted J L d) {i j : Nat} (hi : i < d.length) (hj : j < d.length) (hij : i < j) : betterOf J (itOf L d[j]) (itOf L d[i]) = false :=
  lex_not (List.pairwise_iff_getElem.1 h.2 i j hi hj hij)
theorem eq_run (p1 p2 p3 s1 s2 s3 : Int) : ∃ f : Bool, ∀ w, (binOp BinOp.eql 33 (.agg #[.int .i64 p1, .int .i64 p2, .int .i64 p3]) (.agg #[.int .i64 s1, .int .i64 s2, .int .i64 s3])).run Try.prog w = .ok (.bool f) w := by
  refine ⟨p1 == s1 && (p2 == s2 && p3 == s3), fun w => ?_⟩
  by_cases h1 : p1 = s1 <;> by_cases h2 : p2 = s2 <;> by_cases h3 : p3 = s3 <;> simp [go_sem, h1, h2, h3]
def In1Rel (n bi : Nat) (w5 : World) (s t : Value) (wr : World) : Prop := ∃ (i : Nat) (f : Bool), s = .bool f ∧ t = .int .i64 (i : Int) ∧ i ≤ n ∧ (bi < i → f = true) ∧ Grown w5 wr
def In2Rel (n : Nat) (w5 : World) (t : Value) (wr : World) : Prop := ∃ i : Nat, t = .int .i64 (i : Int) ∧ 1 ≤ i ∧ i ≤ n ∧ Grown w5 wr
set_option maxRecDepth 100000 in
set_option maxHeartbeats 8000000 in
theorem pairBest_walk (v x : Value) (w : World) (l : List (Int × Int)) (hv : eltsAt pairE w v l) (hl : l.length ≤ maxLen) (hf : FitsP l) (L : List Item) (hx : eltsAt itemE w x L) (hL : L.length ≤ maxLen) (hfi : ∀ q ∈ L, FitsI q) (hnil : nilNone x) :
    Calls Try.prog 5 #[v, x] w fun e w' => e = .returned (.bool true) ∧ Below w.heap.size w w' := by
  have mixed : Try.prog.follows .mixedOrders = true := by kernel_rfl
  have HV := Lib.hid hv
  have HX := Lib.hid hx
  have HF := Lib.hid hf
  have HFI := Lib.hid hfi
  have HN := Lib.hid hnil
  obtain ⟨ar, cap, rfl, _⟩ := hv
  obtain ⟨xr, cax, rfl, hxc⟩ := hx
  have HXC := Lib.hid hxc
  clear hf hfi hnil hxc
  unfold maxLen at hl hL
  go_enter Try.func5, Try.ntmps5
  go_wp2_with fail
  refine (awake_any _).mono ?_
  rintro e w1 ⟨rfl, hb1⟩
  have HB1 := Lib.hid hb1
  clear hb1
  by_cases hl60 : 60 < l.length
  · have hlI : (60 : Int) < (l.length : Int) := by omega
    go_wp2
    go_ret
    exact ⟨rfl, HB1.out⟩
  have hlI : ¬ (60 : Int) < (l.length : Int) := by omega
  by_cases hL60 : 60 < L.length
  · have hLI : (60 : Int) < (L.length : Int) := by omega
    go_wp2
    go_ret
    exact ⟨rfl, HB1.out⟩
  have hLI : ¬ (60 : Int) < (L.length : Int) := by omega
  by_cases hL0 : L.length = 0
  · have hLI0 : (L.length : Int) = 0 := by omega
    go_wp2
    go_ret
    exact ⟨rfl, HB1.out⟩
  have hLI0 : ((L.length : Int) == 0) = false := beq_eq_false_iff_ne.2 (by omega)
  have hLI1 : ¬ (L.length : Int) = 0 := by omega
  have h0 : 0 < L.length := by omega
  have cJ := joined_any (.slice ar l.length cap) w1 l (HV.out.below HB1.out (Nat.le_refl _)) HF.out (by omega)
  go_wp2_with fail
  refine cJ.mono ?_
  rintro e w2 ⟨K, K2, J, ok, rfl, hJl, hB⟩
  have HB := Lib.hid hB
  have HBEL : Hid (Below w.heap.size w w2) := Lib.hid (HB1.out.trans (hB.bel.mono HB1.out.size))
  clear hB cJ
  cases ok with
  | false =>
    go_wp2
    go_ret
    exact ⟨rfl, HBEL.out⟩
  | true =>
    have hJ9 : J.length ≤ 900000 := by omega
    have cB := bestB HB.out hJ9 (HX.out.below HBEL.out (Nat.le_refl _)) h0 (by omega) HFI.out
    go_wp2_with fail
    refine cB.mono ?_
    rintro e w3 ⟨bi, rfl, hbu, hb3⟩
    have HBU := Lib.hid hbu
    have HB3 := Lib.hid hb3
    generalize hs : itOf L bi = s
    have HS := Lib.hid hs
    have HFS : Hid (FitsI s) := Lib.hid (by rw [← hs]; exact it_fits HFI.out bi)
    clear hbu hb3 hs cB
    obtain ⟨s1, s2, s3⟩ := s
    unfold itemV
    simp only
    obtain ⟨w4, hw4⟩ : ∃ w4, w4 = w3.alloc (.cells #[.int .i64 s1, .int .i64 s2, .int .i64 s3] 33) := ⟨_, rfl⟩
    have HB4 : Hid (Below w2.heap.size w2 w4) := Lib.hid (by rw [hw4]; exact HB3.out.alloc HB3.out.size _)
    have HX4 : Hid (Box w4 w3.heap.size s1 s2 s3) := Lib.hid (by rw [hw4]; exact ⟨by simp, by simp, by simp⟩)
    have hlt4 : w3.heap.size < w4.heap.size := by rw [hw4]; simp
    have HBEL4 : Hid (Below w.heap.size w w4) := Lib.hid (HBEL.out.trans (HB4.out.mono HBEL.out.size))
    have hw' := hw4.symm
    have cS := sortB (HB.out.below HB4.out) hJ9 (HX.out.below HBEL4.out (Nat.le_refl _)) HN.out (by omega) HFI.out
    clear hw4
    go_wp2_with fail
    refine cS.mono ?_
    rintro e w5 ⟨g, d, rfl, hel, hso, hb5⟩
    have HEL := Lib.hid hel
    have HSO := Lib.hid hso
    have HBEL5 : Hid (Below w.heap.size w w5) := Lib.hid (HBEL4.out.trans (hb5.mono HBEL4.out.size))
    have HB5 : Hid (Both w1 K K2 J J w5) := Lib.hid ((HB.out.below HB4.out).below hb5)
    have HX5 : Hid (Box w5 w3.heap.size s1 s2 s3) := Lib.hid (HX4.out.below hlt4 hb5)
    have hlt5 : w3.heap.size < w5.heap.size := Nat.lt_of_lt_of_le hlt4 hb5.size
    clear hel hso hb5 cS hw' HB HB1 HBEL HB3 HB4 HX4 hlt4 HBEL4
    obtain ⟨N, hN⟩ : ∃ N, w3.heap.size = N := ⟨_, rfl⟩
    rw [hN] at HX5 hlt5
    rw [hN]
    clear hN
    obtain ⟨ad, rfl, _⟩ := HXC.out 0 h0
    go_wp2
    go_loopw [11, 12] (fun s t wr => In1Rel L.length bi w5 s t wr) (fun _ t _ => L.length + 1 - (intOf t).toNat)
    case atStart => exact ⟨0, false, rfl, rfl, by omega, by omega, Grown.refl _⟩
    case round =>
      obtain ⟨i, f, rfl, rfl, hi, hfb, hgr⟩ := hrel
      have HG := Lib.hid hgr
      have HFB := Lib.hid hfb
      clear hgr hfb
      by_cases hgo : i < L.length
      · have hgoI : (i : Int) < (L.length : Int) := by omega
        have hbq : ∀ wq, Grown w5 wq → Below w.heap.size w wq := fun wq hq => HBEL5.out.trans (hq.below.mono HBEL5.out.size)
        have HBQ := Lib.hid hbq
        clear hbq
        cases f with
        | true =>
          obtain ⟨⟨p1, p2, p3⟩, hp⟩ : ∃ p, itOf L i = p := ⟨_, rfl⟩
          have HP := Lib.hid hp
          clear hp
          have HFP : Hid (FitsI (p1, p2, p3)) := Lib.hid (by rw [← HP.out]; exact it_fits HFI.out i)
          have HNB : Hid (betterOf J (p1, p2, p3) (s1, s2, s3) = false) := Lib.hid (by rw [← HP.out, ← HS.out]; exact best_not HBU.out hgo)
          obtain ⟨c0, c1, c2⟩ := items_at HX.out (HBQ.out wr HG.out) hgo
          rw [← it_at hgo, HP.out] at c0 c1 c2
          obtain ⟨b0, b1, b2⟩ := HX5.out.below hlt5 HG.out.below
          go_wp2
          go_quiet (fail)
          have HGq : Hid (Grown w5 (wr.drewN nq)) := Lib.hid (HG.out.drewN nq)
          generalize wr.drewN nq = wq at *
          obtain ⟨g0, g1, g2⟩ := items_g HX.out (HBQ.out wq HGq.out) hgo HP.out
          obtain ⟨k0, k1, k2⟩ := box_g (HX5.out.below hlt5 HGq.out.below)
          have hB := HB5.out.grown HGq.out
          have hcg := fun n os => betterG hB hJ9 HFP.out HFS.out n os
          rw [HNB.out] at hcg
          clear c0 c1 c2 b0 b1 b2 hB
          go_wp2_with fail
          go_quiet_grown (first | (go_at_call 13; refine hcg _ _))
          have HG2 : Hid (Grown w5 (grow (wq.drewN nq) osq)) := Lib.hid (HGq.out.trans (Grown.of _ _ _))
          clear g0 g1 g2 k0 k1 k2 hcg
          generalize grow (wq.drewN nq) osq = wz at *
          go_wp2
          go_roundw
          case rel => exact ⟨i + 1, _, rfl, by simp, hgo, fun _ => rfl, HG2.out⟩
          case measure => simp [intOf]; omega
        | false =>
          have HBI : Hid (¬ bi < i) := Lib.hid (fun h => by have := HFB.out h; cases this)
          by_cases hib : i = bi
          · have HIB := Lib.hid hib
            have HP : Hid (itOf L i = (s1, s2, s3)) := Lib.hid (by rw [hib]; exact HS.out)
            have HFP : Hid (FitsI (s1, s2, s3)) := Lib.hid (by rw [← HP.out]; exact it_fits HFI.out i)
            have HNB : Hid (betterOf J (s1, s2, s3) (s1, s2, s3) = false) := Lib.hid (better_irrefl _)
            obtain ⟨c0, c1, c2⟩ := items_at HX.out (HBQ.out wr HG.out) hgo
            rw [← it_at hgo, HP.out] at c0 c1 c2
            obtain ⟨b0, b1, b2⟩ := HX5.out.below hlt5 HG.out.below
            clear hib
            go_wp2
            go_quiet (fail)
            have HGq : Hid (Grown w5 (wr.drewN nq)) := Lib.hid (HG.out.drewN nq)
            generalize wr.drewN nq = wq at *
            obtain ⟨g0, g1, g2⟩ := items_g HX.out (HBQ.out wq HGq.out) hgo HP.out
            obtain ⟨k0, k1, k2⟩ := box_g (HX5.out.below hlt5 HGq.out.below)
            have hB := HB5.out.grown HGq.out
            have hcg := fun n os => betterG hB hJ9 HFP.out HFS.out n os
            rw [HNB.out] at hcg
            clear c0 c1 c2 b0 b1 b2 hB
            go_wp2_with fail
            go_quiet_grown (first | (go_at_call 13; refine hcg _ _))
            have HG2 : Hid (Grown w5 (grow (wq.drewN nq) osq)) := Lib.hid (HGq.out.trans (Grown.of _ _ _))
            clear g0 g1 g2 k0 k1 k2 hcg
            generalize grow (wq.drewN nq) osq = wz at *
            go_wp2
            go_roundw
            case rel => exact ⟨i + 1, _, rfl, by simp, hgo, fun _ => by simp, HG2.out⟩
            case measure => simp [intOf]; omega
          · have HIB := Lib.hid hib
            clear hib
            obtain ⟨⟨p1, p2, p3⟩, hp⟩ : ∃ p, itOf L i = p := ⟨_, rfl⟩
            have HP := Lib.hid hp
            clear hp
            have HFP : Hid (FitsI (p1, p2, p3)) := Lib.hid (by rw [← HP.out]; exact it_fits HFI.out i)
            have HNB : Hid (betterOf J (p1, p2, p3) (s1, s2, s3) = false) := Lib.hid (by rw [← HP.out, ← HS.out]; exact best_not HBU.out hgo)
            obtain ⟨c0, c1, c2⟩ := items_at HX.out (HBQ.out wr HG.out) hgo
            rw [← it_at hgo, HP.out] at c0 c1 c2
            obtain ⟨b0, b1, b2⟩ := HX5.out.below hlt5 HG.out.below
            obtain ⟨fb, hfb⟩ := eq_run p1 p2 p3 s1 s2 s3
            go_wp2
            go_quiet (fail)
            have HGq : Hid (Grown w5 (wr.drewN nq)) := Lib.hid (HG.out.drewN nq)
            generalize wr.drewN nq = wq at *
            obtain ⟨g0, g1, g2⟩ := items_g HX.out (HBQ.out wq HGq.out) hgo HP.out
            obtain ⟨k0, k1, k2⟩ := box_g (HX5.out.below hlt5 HGq.out.below)
            have hB := HB5.out.grown HGq.out
            have hcg := fun n os => betterG hB hJ9 HFP.out HFS.out n os
            rw [HNB.out] at hcg
            clear c0 c1 c2 b0 b1 b2 hB
            go_wp2_with fail
            go_quiet_grown (first | (go_at_call 13; refine hcg _ _))
            have HG2 : Hid (Grown w5 (grow (wq.drewN nq) osq)) := Lib.hid (HGq.out.trans (Grown.of _ _ _))
            clear g0 g1 g2 k0 k1 k2 hcg
            generalize grow (wq.drewN nq) osq = wz at *
            go_wp2
            go_roundw
            case rel => exact ⟨i + 1, _, rfl, by simp, hgo, fun h => absurd h (by have := HBI.out; have := HIB.out; omega), HG2.out⟩
            case measure => simp [intOf]; omega
      · have hgoI : ¬ (i : Int) < (L.length : Int) := by omega
        have hf1 : f = true := HFB.out (by have := HBU.out.1; omega)
        subst hf1
        have hd := HSO.out.len
        have HD := Lib.hid hd
        have hd0 : 0 < d.length := by omega
        obtain ⟨b0, b1, b2⟩ := HX5.out.below hlt5 HG.out.below
        have hm0 : (d.map (itOf L))[0]'(by simpa using hd0) = (s1, s2, s3) := by
          rw [List.getElem_map, sorted_first HSO.out HBU.out hd0]; exact HS.out
        have c0 := elts_at HEL.out HG.out.below (k := 0) (by simpa using hd0) 0 (.int .i64 s1) (by rw [hm0]; rfl)
        have c1 := elts_at HEL.out HG.out.below (k := 0) (by simpa using hd0) 1 (.int .i64 s2) (by rw [hm0]; rfl)
        have c2 := elts_at HEL.out HG.out.below (k := 0) (by simpa using hd0) 2 (.int .i64 s3) (by rw [hm0]; rfl)
        rw [add_zero_off] at c0 c1 c2
        simp only [Nat.zero_mul, Nat.zero_add] at c0 c1 c2
        clear hm0 hd hd0
        go_wp2
        go_quiet (fail)
        have HGq : Hid (Grown w5 (wr.drewN nq)) := Lib.hid (HG.out.drewN nq)
        generalize wr.drewN nq = wq at *
        clear c0 c1 c2 b0 b1 b2 HG
        go_wp2
        go_loopw [13] (fun t wr => In2Rel L.length w5 t wr) (fun t _ => L.length + 1 - (intOf t).toNat)
        case atStart => exact ⟨1, rfl, Nat.le_refl _, h0, HGq.out⟩
        case round =>
          clear HGq
          obtain ⟨i, rfl, hi1, hi2, hgr⟩ := hrel
          have HG := Lib.hid hgr
          clear hgr
          have hbel := HBEL5.out.trans (HG.out.below.mono HBEL5.out.size)
          have HBELr := Lib.hid hbel
          clear hbel
          by_cases hgo : i < L.length
          · have hgoI : (i : Int) < (L.length : Int) := by omega
            obtain ⟨j, rfl⟩ : ∃ j, i = j + 1 := ⟨i - 1, by omega⟩
            have hdl := HD.out
            obtain ⟨⟨p1, p2, p3⟩, hp⟩ : ∃ p, itOf L (d[j + 1]'(by omega)) = p := ⟨_, rfl⟩
            obtain ⟨⟨q1, q2, q3⟩, hq⟩ : ∃ q, itOf L (d[j]'(by omega)) = q := ⟨_, rfl⟩
            obtain ⟨g0, g1, g2⟩ := srow_g HEL.out HG.out.below (k := j + 1) (by simp; omega) (show (d.map (itOf L))[j + 1]'(by simp; omega) = (p1, p2, p3) by rw [List.getElem_map]; exact hp)
            obtain ⟨k0, k1, k2⟩ := srow_g HEL.out HG.out.below (k := j) (by simp; omega) (show (d.map (itOf L))[j]'(by simp; omega) = (q1, q2, q3) by rw [List.getElem_map]; exact hq)
            have hnb := sorted_not HSO.out (i := j) (j := j + 1) (by omega) (by omega) (by omega)
            rw [hp, hq] at hnb
            have hcg := fun n os => betterG (HB5.out.grown HG.out) hJ9 (p := p1) (q := p2) (n := p3) (r := q1) (s := q2) (m := q3) (by rw [← hp]; exact it_fits HFI.out _) (by rw [← hq]; exact it_fits HFI.out _) n os
            rw [hnb] at hcg
            have rj : IntKind.i64.wrap (j : Int) = (j : Int) := by rw [IntKind.wrap_i64]; omega
            have bj : (j : Int) < (L.length : Int) := by omega
            have bj1 : (j : Int) + 1 < (L.length : Int) := by omega
            have pj1 : (0 : Int) ≤ (j : Int) + 1 := by omega
            have ej1 : ((j : Int) + 1).toNat = j + 1 := by omega
            clear hp hq hnb hdl
            go_wp2_with fail
            go_quiet_grown (first | (go_at_call 13; refine hcg _ _))
            have HG2 : Hid (Grown w5 (grow (wr.drewN nq) osq)) := Lib.hid (HG.out.trans (Grown.of _ _ _))
            clear g0 g1 g2 k0 k1 k2 hcg
            generalize grow (wr.drewN nq) osq = wz at *
            go_wp2
            go_roundw
            case rel => exact ⟨j + 1 + 1, by simp, by omega, hgo, HG2.out⟩
            case measure => simp [intOf]; omega
          · have hgoI : ¬ (i : Int) < (L.length : Int) := by omega
            go_wp2
            go_ret
            exact ⟨rfl, HBELr.out⟩
end Go.Proofs.Ythjblamfkfclhaa
