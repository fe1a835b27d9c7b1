/- slices.symMergeCmpFunc at structs, whole. -/
import Derived.Test.YthjblamfkfclhaaMLast
namespace Go.Proofs.Ythjblamfkfclhaa
open Go.Shelf Go.RowKit Go.Lib Go.Sort
variable {P : Program} {k : Nat}

/-- The bounds of the search for the cut. -/
def CutIn (a m b mid s r : Nat) : Prop := s ≤ r ∧ ((m ≤ mid ∧ a ≤ s ∧ r ≤ m) ∨ (mid < m ∧ mid + m ≤ b + s ∧ r ≤ mid))
theorem CutIn.place {a m b mid s r c : Nat} (h : CutIn a m b mid s r) (h1 : 2 * mid ≤ a + b) (h2 : a + b ≤ 2 * mid + 1) (hs : s ≤ c) (hr : c < r) : a ≤ c ∧ c < m ∧ c < mid ∧ mid + m ≤ b + c := by
  obtain ⟨_, h | h⟩ := h <;> omega
theorem CutIn.up {a m b mid s r c : Nat} (h : CutIn a m b mid s r) (hs : s ≤ c) (hr : c < r) : CutIn a m b mid (c + 1) r := by
  obtain ⟨_, h | h⟩ := h
  · exact ⟨by omega, .inl (by omega)⟩
  · exact ⟨by omega, .inr (by omega)⟩
theorem CutIn.down {a m b mid s r c : Nat} (h : CutIn a m b mid s r) (hs : s ≤ c) (hr : c < r) : CutIn a m b mid s c := by
  obtain ⟨_, h | h⟩ := h
  · exact ⟨by omega, .inl (by omega)⟩
  · exact ⟨by omega, .inr (by omega)⟩
def St1 (enc : Nat → List Value) (k : Nat) (w0 : World) (blk off : Nat) (lt : Nat → Nat → Bool) (a s mid e b : Nat) (d : Array Nat) (w : World) : Prop := ∃ d1, SWK enc k w0 blk off d1 w ∧ Mid lt a s mid e b d d1
def St2 (enc : Nat → List Value) (k : Nat) (w0 : World) (blk off : Nat) (lt : Nat → Nat → Bool) (a s mid e b : Nat) (d : Array Nat) (w : World) : Prop := ∃ d1 d2, SWK enc k w0 blk off d2 w ∧ Mid lt a s mid e b d d1 ∧ MOut lt a mid d1 d2
theorem rotAt_none {s m e : Nat} (h : m ≤ s ∨ e ≤ m) (hs : s ≤ m) (he : m ≤ e) (d : Array Nat) (p : Nat) : d[p]! = rotAt s m e d p := by
  unfold rotAt
  rcases h with h | h
  · repeat' split
    all_goals first | rfl | (exfalso; omega) | (congr 1; omega)
  · repeat' split
    all_goals first | rfl | (exfalso; omega) | (congr 1; omega)
section
variable {enc : Nat → List Value} {w0 w : World} {blk off a s mid e b : Nat} {lt : Nat → Nat → Bool} {d : Array Nat}
theorem St1.skip (h : St1 enc k w0 blk off lt a s mid e b d w) (hn : s ≤ a ∨ mid ≤ s) : St2 enc k w0 blk off lt a s mid e b d w := by
  obtain ⟨d1, h1, h2⟩ := h
  exact ⟨d1, d1, h1, h2, h2.low.none hn⟩
theorem St2.skip (h : St2 enc k w0 blk off lt a s mid e b d w) (hn : e ≤ mid ∨ b ≤ e) : MRet enc k w0 blk off lt a b d w := by
  obtain ⟨d1, d2, h1, h2, h3⟩ := h
  exact ⟨d2, h1, h2.done h3 ((h2.high' h3).none hn)⟩
end
/-- The calls that are made behind the search. -/
structure Cut3 (P : Program) (k : Nat) (enc : Nat → List Value) (w0 : World) (blk off cap g : Nat) (cb : Array Value) (lt : Nat → Nat → Bool) (a m s mid e b : Nat) (d : Array Nat) : Prop where
  rot : ∀ w, SWK enc k w0 blk off d w → s < m → m < e → Calls P 41 #[.slice (some ⟨blk, off, none⟩) d.size cap, .int .i64 s, .int .i64 m, .int .i64 e, .func (.func g) #[] cb] w fun x w' => x = .returned (.tuple #[]) ∧ St1 enc k w0 blk off lt a s mid e b d w'
  still : ∀ w, SWK enc k w0 blk off d w → (m ≤ s ∨ e ≤ m) → St1 enc k w0 blk off lt a s mid e b d w
  low : ∀ w, St1 enc k w0 blk off lt a s mid e b d w → a < s → s < mid → Calls P 38 #[.slice (some ⟨blk, off, none⟩) d.size cap, .int .i64 a, .int .i64 s, .int .i64 mid, .func (.func g) #[] cb] w fun x w' => x = .returned (.tuple #[]) ∧ St2 enc k w0 blk off lt a s mid e b d w'
  high : ∀ w, St2 enc k w0 blk off lt a s mid e b d w → mid < e → e < b → Calls P 38 #[.slice (some ⟨blk, off, none⟩) d.size cap, .int .i64 mid, .int .i64 e, .int .i64 b, .func (.func g) #[] cb] w fun x w' => x = .returned (.tuple #[]) ∧ MRet enc k w0 blk off lt a b d w'
set_option maxHeartbeats 16000000 in
set_option maxRecDepth 1000000 in
theorem symMerge_all (L : StLays P k) (enc : Nat → List Value) (cf : Nat → Nat → Int) (g : Nat) (cb : Array Value) (blk off cap : Nat) (d0 : Array Nat) (w0 : World)
    (eg : ∀ args w, (callFunc g args).run P w = .ok (.enter g args) w) (hcmp : CmpLays P g cb enc k cf blk off d0.size w0) (hO : SWO (ltOf cf)) (R : RowK enc k w0 blk off d0) :
    ∀ (N a m b : Nat) (d : Array Nat) (w : World), b - a < N → d0.size = d.size → SWK enc k w0 blk off d w → MIn (ltOf cf) a m b d → a < m → m < b → d.size < 4611686018427387904 →
    Calls P 38 #[.slice (some ⟨blk, off, none⟩) d.size cap, .int .i64 a, .int .i64 m, .int .i64 b, .func (.func g) #[] cb] w fun e w' => e = .returned (.tuple #[]) ∧ MRet enc k w0 blk off (ltOf cf) a b d w' := by
  intro N
  induction N with
  | zero => intro _ _ _ _ _ h; exact absurd h (Nat.not_lt_zero _)
  | succ N ih =>
    intro a m b d w hN hs S hM ham hmb hsz
    by_cases hma : m = a + 1
    · exact symMerge_one L enc cf g cb blk off cap a m b d0 d w0 w eg hcmp hO R hs S hM hma hsz
    by_cases hbm : b = m + 1
    · exact symMerge_last L enc cf g cb blk off cap a m b d0 d w0 w eg hcmp hO R hs S hM hma hbm hsz
    obtain ⟨mid, hmid⟩ : ∃ mid, mid = (a + b) / 2 := ⟨_, rfl⟩
    have hm1 : 2 * mid ≤ a + b := by omega
    have hm2 : a + b ≤ 2 * mid + 1 := by omega
    have hcut : ∀ s e, CutIn a m b mid s s → s + e = mid + m → CutRel (ltOf cf) a m b (mid + m) d s s → Cut3 P k enc w0 blk off cap g cb (ltOf cf) a m s mid e b d := by
      intro s e hci hse hcr
      have hbd : a ≤ s ∧ s ≤ m ∧ m ≤ e ∧ e ≤ b := by obtain ⟨_, h | h⟩ := hci <;> omega
      obtain ⟨b1, b2, b3, b4⟩ := hbd
      obtain ⟨hU, hV⟩ := hM.cut hO hmid hcr (fun h => by obtain ⟨_, h | h⟩ := hci <;> omega) (fun h => by obtain ⟨_, h | h⟩ := hci <;> omega)
      rw [show mid + m - s = e by omega] at hU hV
      have hmidI : a < mid ∧ mid < b := by omega
      have hle := hM.le
      refine ⟨fun w hw h1 h2 => ?_, fun w hw h1 => ?_, fun w hw h1 h2 => ?_, fun w hw h1 h2 => ?_⟩
      · refine (rotate_any L enc g cb blk off cap s m e d0 d w0 w R hs hw h1 h2 (by omega) hsz).mono ?_
        rintro x w' ⟨rfl, d1, k1, k2, k3⟩
        exact ⟨rfl, d1, k1, hM.mid hO b1 b2 b3 b4 hse hU hV k2 k3⟩
      · exact ⟨d, hw, hM.mid hO b1 b2 b3 b4 hse hU hV (permIn_refl _ _ _) (rotAt_none h1 b2 b3 d)⟩
      · obtain ⟨d1, k1, k2⟩ := hw
        have hds := k2.perm.1
        have := ih a s mid d1 w (by omega) (by omega) k1 k2.low h1 h2 (by omega)
        rw [hds] at this
        refine this.mono ?_
        rintro x w' ⟨rfl, d2, j1, j2⟩
        exact ⟨rfl, d1, d2, j1, k2, j2⟩
      · obtain ⟨d1, d2, k1, k2, k3⟩ := hw
        have hds := k2.perm.1
        have hds2 := k3.1.1
        have := ih mid e b d2 w (by omega) (by omega) k1 (k2.high' k3) h1 h2 (by omega)
        rw [hds2, hds] at this
        refine this.mono ?_
        rintro x w' ⟨rfl, d3, j1, j2⟩
        exact ⟨rfl, d3, j1, k2.done k3 j2⟩
    have mixed := L.mixed; have t0 := L.t0; have a0 := L.a0; have z0 := L.z0; have v0 := L.v0; have t3 := L.t3; have a3 := L.a3; have z3 := L.z3; have v3 := L.v3; have t4 := L.t4; have a4 := L.a4; have z4 := L.z4; have v4 := L.v4; have t84 := L.t84; have a84 := L.a84; have z84 := L.z84; have v84 := L.v84; have t23 := L.t23; have a23 := L.a23; have z23 := L.z23; have v23 := L.v23; have t57 := L.t57; have a57 := L.a57; have z57 := L.z57; have v57 := L.v57; have aE := L.aE; have zE := L.zE
    have e38 : ∀ args w, (callFunc 38 args).run P w = .ok (.enter 38 args) w := enters_of L.f38 (by kernel_rfl) rfl
    have e41 : ∀ args w, (callFunc 41 args).run P w = .ok (.enter 41 args) w := enters_of L.f41 (by kernel_rfl) rfl
    have S0 : Aside (SWK enc k w0 blk off d w) := S
    have HM : Aside (MIn (ltOf cf) a m b d) := hM
    have HC : Aside (CmpLays P g cb enc k cf blk off d0.size w0) := hcmp
    have HCUT : Aside (∀ s e, CutIn a m b mid s s → s + e = mid + m → CutRel (ltOf cf) a m b (mid + m) d s s → Cut3 P k enc w0 blk off cap g cb (ltOf cf) a m s mid e b d) := hcut
    have HMID : Aside (a < mid ∧ mid < b) := ⟨by omega, by omega⟩
    have hbs := hM.le
    have hmaI : ((m : Int) - (a : Int) == 1) = false := beq_eq_false_iff_ne.2 (by omega)
    have hbmI : ((b : Int) - (m : Int) == 1) = false := beq_eq_false_iff_ne.2 (by omega)
    have hhI : ((a : Int) + (b : Int)) / 2 = (mid : Int) := by omega
    have r1 : IntKind.i64.wrap ((a : Int) + (b : Int)) = (a : Int) + (b : Int) := by rw [IntKind.wrap_i64]; omega
    have r2 : IntKind.u64.wrap ((a : Int) + (b : Int)) = (a : Int) + (b : Int) := by rw [IntKind.wrap_u64]; omega
    have r3 : IntKind.i64.wrap (mid : Int) = (mid : Int) := by rw [IntKind.wrap_i64]; omega
    have r4 : IntKind.u64.wrap (mid : Int) = (mid : Int) := by rw [IntKind.wrap_u64]; omega
    clear S hM hcmp hcut ih hmid hma hbm
    by_cases hmm : mid < m
    · have hmmI : (mid : Int) < (m : Int) := by omega
      go_enter L.f38, Try.ntmps38
      go_wp2
      go_loopg [20, 21] (b - a) (fun kx x y wr => ∃ s r : Nat, x = .int .i64 (s : Int) ∧ y = .int .i64 (r : Int) ∧ a ≤ s ∧ r ≤ m ∧ r - s ≤ kx ∧ Aside (CutIn a m b mid s r) ∧ Aside (SWK enc k w0 blk off d wr) ∧ Aside (CutRel (ltOf cf) a m b (mid + m) d s r))
      case atStart => exact ⟨mid + m - b, mid, by first | rfl | (congr 1; omega), rfl, by omega, by omega, by omega, ⟨by omega, .inr (by omega)⟩, S0, ⟨fun p h1 h2 h3 h4 h5 => absurd h5 (by omega), fun p h1 h2 h3 h4 => absurd h3 (by omega)⟩⟩
      case round =>
        clear S0
        obtain ⟨s, r, rfl, rfl, has, hrm, hkx, hci, S1, hcr⟩ := hrel
        by_cases hlt : s < r
        · have hltI : (s : Int) < (r : Int) := by omega
          obtain ⟨c, hc⟩ : ∃ c : Nat, c = (s + r) / 2 := ⟨_, rfl⟩
          have hcI : ((s : Int) + (r : Int)) / 2 = (c : Int) := by omega
          have hsc : s ≤ c := by omega
          have hcr' : c < r := by omega
          obtain ⟨p1, p2, p3, p4⟩ := hci.out.place hm1 hm2 hsc hcr'
          obtain ⟨q, hq⟩ : ∃ q : Nat, q = mid + m - 1 - c := ⟨_, rfl⟩
          have hqI : (mid : Int) + (m : Int) - 1 - (c : Int) = (q : Int) := by omega
          have rq : IntKind.i64.wrap (q : Int) = (q : Int) := by rw [IntKind.wrap_i64]; omega
          have r5 : IntKind.i64.wrap ((s : Int) + (r : Int)) = (s : Int) + (r : Int) := by rw [IntKind.wrap_i64]; omega
          have r6 : IntKind.u64.wrap ((s : Int) + (r : Int)) = (s : Int) + (r : Int) := by rw [IntKind.wrap_u64]; omega
          have r7 : IntKind.i64.wrap (c : Int) = (c : Int) := by rw [IntKind.wrap_i64]; omega
          have r8 : IntKind.u64.wrap (c : Int) = (c : Int) := by rw [IntKind.wrap_u64]; omega
          have hqb : q < b := by omega
          have hqm : m ≤ q := by omega
          have ec : ((c : Int)).toNat = c := by omega
          have bc : (c : Int) < (d.size : Int) := by omega
          have eq : ((q : Int)).toNat = q := by omega
          have bq : (q : Int) < (d.size : Int) := by omega
          have l1 := fun n os => S1.out.ld R (by omega) P c (by omega) n os
          have l2 := fun n os => S1.out.ld R (by omega) P q (by omega) n os
          have hcg := fun n os => S1.out.cmp HC.out (by omega) d[q]! d[c]! n os
          generalize hxh : enc d[c]! = ch at l1 hcg
          generalize hxa : enc d[q]! = ca at l2 hcg
          generalize hcc : cf d[q]! d[c]! = z at hcg
          have HLV : Aside (ltOf cf d[mid + m - 1 - c]! d[c]! = decide (z < 0)) := by rw [← hq]; show decide (cf d[q]! d[c]! < 0) = _; rw [hcc]
          have HQ : Aside (q = mid + m - 1 - c) := hq
          clear hxh hxa hcc hc hq
          by_cases hcz : z < 0
          · have hc1 : decide (z < 0) = true := decide_eq_true hcz
            go_wp2_with fail
            go_quiet_grown (first | (go_at_fn g; refine Calls.grown_of (hcg _ _)))
            have S2 : Aside (SWK enc k w0 blk off d (grow (wr.drewN nq) osq)) := S1.out.grown nq osq
            clear l1 l2 hcg
            generalize grow (wr.drewN nq) osq = w2 at S2 ⊢
            go_wp2
            go_roundg (c - s)
            case measure => omega
            case rel => exact ⟨s, c, rfl, rfl, has, by omega, Nat.le_refl _, hci.out.down hsc hcr', S2, HM.out.cut_hi hO hcr.out p1 p2 (by omega) (by omega) (by rw [HLV.out]; exact hc1)⟩
          · have hc1 : decide (z < 0) = false := decide_eq_false hcz
            have hc2 : decide (0 ≤ z) = true := decide_eq_true (by omega)
            have hc3 : (!decide (z < 0)) = true := by rw [hc1]; rfl
            go_wp2_with fail
            go_quiet_grown (first | (go_at_fn g; refine Calls.grown_of (hcg _ _)))
            have S2 : Aside (SWK enc k w0 blk off d (grow (wr.drewN nq) osq)) := S1.out.grown nq osq
            clear l1 l2 hcg
            generalize grow (wr.drewN nq) osq = w2 at S2 ⊢
            go_wp2
            go_roundg (r - (c + 1))
            case measure => omega
            case rel => exact ⟨c + 1, r, by simp, rfl, by omega, hrm, Nat.le_refl _, hci.out.up hsc hcr', S2, HM.out.cut_lo hO hcr.out p1 p2 (by omega) (by omega) (by rw [HLV.out]; exact hc1)⟩
        · have hltI : ¬ (s : Int) < (r : Int) := by omega
          have hrs : r = s := by have := hci.out.1; omega
          subst hrs
          have hrm2 : r ≤ mid + m := by omega
          obtain ⟨e, he⟩ : ∃ e : Nat, e = mid + m - r := ⟨_, rfl⟩
          have heI : (mid : Int) + (m : Int) - (r : Int) = (e : Int) := by omega
          have re : IntKind.i64.wrap (e : Int) = (e : Int) := by rw [IntKind.wrap_i64]; omega
          have h3 := HCUT.out r e hci.out (by omega) hcr.out
          have HRO : Aside (∀ w, SWK enc k w0 blk off d w → r < m → m < e → Calls P 41 #[.slice (some ⟨blk, off, none⟩) d.size cap, .int .i64 r, .int .i64 m, .int .i64 e, .func (.func g) #[] cb] w fun x w' => x = .returned (.tuple #[]) ∧ St1 enc k w0 blk off (ltOf cf) a r mid e b d w') := h3.rot
          have H3 : Aside (Cut3 P k enc w0 blk off cap g cb (ltOf cf) a m r mid e b d) := h3
          clear h3
          have HE : Aside (r + e = mid + m) := by show r + e = mid + m; omega
          obtain ⟨m1, m2⟩ := HMID.out
          clear he
          by_cases x1 : r < m
          · by_cases x2 : m < e
            · by_cases x3 : a < r
              · by_cases x4 : e < b
                · have _ : (r : Int) < (m : Int) := by have := HE.out; omega
                  have _ : (m : Int) < (e : Int) := by have := HE.out; omega
                  have _ : (r : Int) < (mid : Int) := by have := HE.out; omega
                  have _ : (mid : Int) < (e : Int) := by have := HE.out; omega
                  have _ : (a : Int) < (r : Int) := by have := HE.out; omega
                  have _ : (e : Int) < (b : Int) := by have := HE.out; omega
                  have _ := HE.out
                  have cR := H3.out.rot wr S1.out (by omega) (by omega)
                  go_wp2_with fail
                  go_at_fn 41
                  refine cR.mono ?_
                  rintro x w1 ⟨rfl, hw1⟩
                  have HA : Aside (St1 enc k w0 blk off (ltOf cf) a r mid e b d w1) := hw1
                  clear hw1 cR
                  have cL := H3.out.low w1 HA.out (by omega) (by omega)
                  go_wp2_with fail
                  go_at_fn 38
                  refine cL.mono ?_
                  rintro x w2 ⟨rfl, hw2⟩
                  have HB : Aside (St2 enc k w0 blk off (ltOf cf) a r mid e b d w2) := hw2
                  clear hw2 cL
                  have cH := H3.out.high w2 HB.out (by omega) (by omega)
                  go_wp2_with fail
                  go_at_fn 38
                  refine cH.mono ?_
                  rintro x w3 ⟨rfl, hw3⟩
                  have HD : Aside (MRet enc k w0 blk off (ltOf cf) a b d w3) := hw3
                  clear hw3 cH
                  go_wp2
                  go_end0
                  exact ⟨rfl, HD.out⟩
                · have _ : (r : Int) < (m : Int) := by have := HE.out; omega
                  have _ : (m : Int) < (e : Int) := by have := HE.out; omega
                  have _ : (r : Int) < (mid : Int) := by have := HE.out; omega
                  have _ : (mid : Int) < (e : Int) := by have := HE.out; omega
                  have _ : (a : Int) < (r : Int) := by have := HE.out; omega
                  have _ : ¬ (e : Int) < (b : Int) := by have := HE.out; omega
                  have _ := HE.out
                  have cR := H3.out.rot wr S1.out (by omega) (by omega)
                  go_wp2_with fail
                  go_at_fn 41
                  refine cR.mono ?_
                  rintro x w1 ⟨rfl, hw1⟩
                  have HA : Aside (St1 enc k w0 blk off (ltOf cf) a r mid e b d w1) := hw1
                  clear hw1 cR
                  have cL := H3.out.low w1 HA.out (by omega) (by omega)
                  go_wp2_with fail
                  go_at_fn 38
                  refine cL.mono ?_
                  rintro x w2 ⟨rfl, hw2⟩
                  have HB : Aside (St2 enc k w0 blk off (ltOf cf) a r mid e b d w2) := hw2
                  clear hw2 cL
                  have HD : Aside (MRet enc k w0 blk off (ltOf cf) a b d w2) := HB.out.skip (by omega)
                  go_wp2
                  go_end0
                  exact ⟨rfl, HD.out⟩
              · by_cases x4 : e < b
                · have _ : (r : Int) < (m : Int) := by have := HE.out; omega
                  have _ : (m : Int) < (e : Int) := by have := HE.out; omega
                  have _ : (r : Int) < (mid : Int) := by have := HE.out; omega
                  have _ : (mid : Int) < (e : Int) := by have := HE.out; omega
                  have _ : ¬ (a : Int) < (r : Int) := by have := HE.out; omega
                  have _ : (e : Int) < (b : Int) := by have := HE.out; omega
                  have _ := HE.out
                  have cR := H3.out.rot wr S1.out (by omega) (by omega)
                  go_wp2_with fail
                  go_at_fn 41
                  refine cR.mono ?_
                  rintro x w1 ⟨rfl, hw1⟩
                  have HA : Aside (St1 enc k w0 blk off (ltOf cf) a r mid e b d w1) := hw1
                  clear hw1 cR
                  have HB : Aside (St2 enc k w0 blk off (ltOf cf) a r mid e b d w1) := HA.out.skip (by omega)
                  have cH := H3.out.high w1 HB.out (by omega) (by omega)
                  go_wp2_with fail
                  go_at_fn 38
                  refine cH.mono ?_
                  rintro x w3 ⟨rfl, hw3⟩
                  have HD : Aside (MRet enc k w0 blk off (ltOf cf) a b d w3) := hw3
                  clear hw3 cH
                  go_wp2
                  go_end0
                  exact ⟨rfl, HD.out⟩
                · have _ : (r : Int) < (m : Int) := by have := HE.out; omega
                  have _ : (m : Int) < (e : Int) := by have := HE.out; omega
                  have _ : (r : Int) < (mid : Int) := by have := HE.out; omega
                  have _ : (mid : Int) < (e : Int) := by have := HE.out; omega
                  have _ : ¬ (a : Int) < (r : Int) := by have := HE.out; omega
                  have _ : ¬ (e : Int) < (b : Int) := by have := HE.out; omega
                  have _ := HE.out
                  have cR := H3.out.rot wr S1.out (by omega) (by omega)
                  go_wp2_with fail
                  go_at_fn 41
                  refine cR.mono ?_
                  rintro x w1 ⟨rfl, hw1⟩
                  have HA : Aside (St1 enc k w0 blk off (ltOf cf) a r mid e b d w1) := hw1
                  clear hw1 cR
                  have HB : Aside (St2 enc k w0 blk off (ltOf cf) a r mid e b d w1) := HA.out.skip (by omega)
                  have HD : Aside (MRet enc k w0 blk off (ltOf cf) a b d w1) := HB.out.skip (by omega)
                  go_wp2
                  go_end0
                  exact ⟨rfl, HD.out⟩
            · have _ : (r : Int) < (m : Int) := by have := HE.out; omega
              have _ : ¬ (m : Int) < (e : Int) := by have := HE.out; omega
              have _ : (a : Int) < (r : Int) := by have := HE.out; omega
              have _ : ¬ (r : Int) < (mid : Int) := by have := HE.out; omega
              have _ : (mid : Int) < (e : Int) := by have := HE.out; omega
              have _ : (e : Int) < (b : Int) := by have := HE.out; omega
              have _ := HE.out
              have HA : Aside (St1 enc k w0 blk off (ltOf cf) a r mid e b d wr) := H3.out.still wr S1.out (by omega)
              have HB : Aside (St2 enc k w0 blk off (ltOf cf) a r mid e b d wr) := HA.out.skip (by omega)
              have cH := H3.out.high wr HB.out (by omega) (by omega)
              go_wp2_with fail
              go_at_fn 38
              refine cH.mono ?_
              rintro x w3 ⟨rfl, hw3⟩
              have HD : Aside (MRet enc k w0 blk off (ltOf cf) a b d w3) := hw3
              clear hw3 cH
              go_wp2
              go_end0
              exact ⟨rfl, HD.out⟩
          · by_cases x2 : r < mid
            · exfalso; omega
            · have _ : ¬ (r : Int) < (m : Int) := by have := HE.out; omega
              have _ : (a : Int) < (r : Int) := by have := HE.out; omega
              have _ : ¬ (r : Int) < (mid : Int) := by have := HE.out; omega
              have _ : ¬ (mid : Int) < (e : Int) := by have := HE.out; omega
              have _ := HE.out
              have HA : Aside (St1 enc k w0 blk off (ltOf cf) a r mid e b d wr) := H3.out.still wr S1.out (by omega)
              have HB : Aside (St2 enc k w0 blk off (ltOf cf) a r mid e b d wr) := HA.out.skip (by omega)
              have HD : Aside (MRet enc k w0 blk off (ltOf cf) a b d wr) := HB.out.skip (by omega)
              go_wp2
              go_end0
              exact ⟨rfl, HD.out⟩
    · have hmmI : ¬ (mid : Int) < (m : Int) := by omega
      go_enter L.f38, Try.ntmps38
      go_wp2
      go_loopg [20, 21] (b - a) (fun kx x y wr => ∃ s r : Nat, x = .int .i64 (s : Int) ∧ y = .int .i64 (r : Int) ∧ a ≤ s ∧ r ≤ m ∧ r - s ≤ kx ∧ Aside (CutIn a m b mid s r) ∧ Aside (SWK enc k w0 blk off d wr) ∧ Aside (CutRel (ltOf cf) a m b (mid + m) d s r))
      case atStart => exact ⟨a, m, rfl, rfl, by omega, by omega, by omega, ⟨by omega, .inl (by omega)⟩, S0, ⟨fun p h1 h2 => absurd h2 (by omega), fun p h1 h2 => absurd h2 (by omega)⟩⟩
      case round =>
        clear S0
        obtain ⟨s, r, rfl, rfl, has, hrm, hkx, hci, S1, hcr⟩ := hrel
        by_cases hlt : s < r
        · have hltI : (s : Int) < (r : Int) := by omega
          obtain ⟨c, hc⟩ : ∃ c : Nat, c = (s + r) / 2 := ⟨_, rfl⟩
          have hcI : ((s : Int) + (r : Int)) / 2 = (c : Int) := by omega
          have hsc : s ≤ c := by omega
          have hcr' : c < r := by omega
          obtain ⟨p1, p2, p3, p4⟩ := hci.out.place hm1 hm2 hsc hcr'
          obtain ⟨q, hq⟩ : ∃ q : Nat, q = mid + m - 1 - c := ⟨_, rfl⟩
          have hqI : (mid : Int) + (m : Int) - 1 - (c : Int) = (q : Int) := by omega
          have rq : IntKind.i64.wrap (q : Int) = (q : Int) := by rw [IntKind.wrap_i64]; omega
          have r5 : IntKind.i64.wrap ((s : Int) + (r : Int)) = (s : Int) + (r : Int) := by rw [IntKind.wrap_i64]; omega
          have r6 : IntKind.u64.wrap ((s : Int) + (r : Int)) = (s : Int) + (r : Int) := by rw [IntKind.wrap_u64]; omega
          have r7 : IntKind.i64.wrap (c : Int) = (c : Int) := by rw [IntKind.wrap_i64]; omega
          have r8 : IntKind.u64.wrap (c : Int) = (c : Int) := by rw [IntKind.wrap_u64]; omega
          have hqb : q < b := by omega
          have hqm : m ≤ q := by omega
          have ec : ((c : Int)).toNat = c := by omega
          have bc : (c : Int) < (d.size : Int) := by omega
          have eq : ((q : Int)).toNat = q := by omega
          have bq : (q : Int) < (d.size : Int) := by omega
          have l1 := fun n os => S1.out.ld R (by omega) P c (by omega) n os
          have l2 := fun n os => S1.out.ld R (by omega) P q (by omega) n os
          have hcg := fun n os => S1.out.cmp HC.out (by omega) d[q]! d[c]! n os
          generalize hxh : enc d[c]! = ch at l1 hcg
          generalize hxa : enc d[q]! = ca at l2 hcg
          generalize hcc : cf d[q]! d[c]! = z at hcg
          have HLV : Aside (ltOf cf d[mid + m - 1 - c]! d[c]! = decide (z < 0)) := by rw [← hq]; show decide (cf d[q]! d[c]! < 0) = _; rw [hcc]
          have HQ : Aside (q = mid + m - 1 - c) := hq
          clear hxh hxa hcc hc hq
          by_cases hcz : z < 0
          · have hc1 : decide (z < 0) = true := decide_eq_true hcz
            go_wp2_with fail
            go_quiet_grown (first | (go_at_fn g; refine Calls.grown_of (hcg _ _)))
            have S2 : Aside (SWK enc k w0 blk off d (grow (wr.drewN nq) osq)) := S1.out.grown nq osq
            clear l1 l2 hcg
            generalize grow (wr.drewN nq) osq = w2 at S2 ⊢
            go_wp2
            go_roundg (c - s)
            case measure => omega
            case rel => exact ⟨s, c, rfl, rfl, has, by omega, Nat.le_refl _, hci.out.down hsc hcr', S2, HM.out.cut_hi hO hcr.out p1 p2 (by omega) (by omega) (by rw [HLV.out]; exact hc1)⟩
          · have hc1 : decide (z < 0) = false := decide_eq_false hcz
            have hc2 : decide (0 ≤ z) = true := decide_eq_true (by omega)
            have hc3 : (!decide (z < 0)) = true := by rw [hc1]; rfl
            go_wp2_with fail
            go_quiet_grown (first | (go_at_fn g; refine Calls.grown_of (hcg _ _)))
            have S2 : Aside (SWK enc k w0 blk off d (grow (wr.drewN nq) osq)) := S1.out.grown nq osq
            clear l1 l2 hcg
            generalize grow (wr.drewN nq) osq = w2 at S2 ⊢
            go_wp2
            go_roundg (r - (c + 1))
            case measure => omega
            case rel => exact ⟨c + 1, r, by simp, rfl, by omega, hrm, Nat.le_refl _, hci.out.up hsc hcr', S2, HM.out.cut_lo hO hcr.out p1 p2 (by omega) (by omega) (by rw [HLV.out]; exact hc1)⟩
        · have hltI : ¬ (s : Int) < (r : Int) := by omega
          have hrs : r = s := by have := hci.out.1; omega
          subst hrs
          have hrm2 : r ≤ mid + m := by omega
          obtain ⟨e, he⟩ : ∃ e : Nat, e = mid + m - r := ⟨_, rfl⟩
          have heI : (mid : Int) + (m : Int) - (r : Int) = (e : Int) := by omega
          have re : IntKind.i64.wrap (e : Int) = (e : Int) := by rw [IntKind.wrap_i64]; omega
          have h3 := HCUT.out r e hci.out (by omega) hcr.out
          have HRO : Aside (∀ w, SWK enc k w0 blk off d w → r < m → m < e → Calls P 41 #[.slice (some ⟨blk, off, none⟩) d.size cap, .int .i64 r, .int .i64 m, .int .i64 e, .func (.func g) #[] cb] w fun x w' => x = .returned (.tuple #[]) ∧ St1 enc k w0 blk off (ltOf cf) a r mid e b d w') := h3.rot
          have H3 : Aside (Cut3 P k enc w0 blk off cap g cb (ltOf cf) a m r mid e b d) := h3
          clear h3
          have HE : Aside (r + e = mid + m) := by show r + e = mid + m; omega
          obtain ⟨m1, m2⟩ := HMID.out
          clear he
          by_cases x1 : r < m
          · by_cases x2 : m < e
            · by_cases x3 : a < r
              · by_cases x4 : e < b
                · have _ : (r : Int) < (m : Int) := by have := HE.out; omega
                  have _ : (m : Int) < (e : Int) := by have := HE.out; omega
                  have _ : (r : Int) < (mid : Int) := by have := HE.out; omega
                  have _ : (mid : Int) < (e : Int) := by have := HE.out; omega
                  have _ : (a : Int) < (r : Int) := by have := HE.out; omega
                  have _ : (e : Int) < (b : Int) := by have := HE.out; omega
                  have _ := HE.out
                  have cR := H3.out.rot wr S1.out (by omega) (by omega)
                  go_wp2_with fail
                  go_at_fn 41
                  refine cR.mono ?_
                  rintro x w1 ⟨rfl, hw1⟩
                  have HA : Aside (St1 enc k w0 blk off (ltOf cf) a r mid e b d w1) := hw1
                  clear hw1 cR
                  have cL := H3.out.low w1 HA.out (by omega) (by omega)
                  go_wp2_with fail
                  go_at_fn 38
                  refine cL.mono ?_
                  rintro x w2 ⟨rfl, hw2⟩
                  have HB : Aside (St2 enc k w0 blk off (ltOf cf) a r mid e b d w2) := hw2
                  clear hw2 cL
                  have cH := H3.out.high w2 HB.out (by omega) (by omega)
                  go_wp2_with fail
                  go_at_fn 38
                  refine cH.mono ?_
                  rintro x w3 ⟨rfl, hw3⟩
                  have HD : Aside (MRet enc k w0 blk off (ltOf cf) a b d w3) := hw3
                  clear hw3 cH
                  go_wp2
                  go_end0
                  exact ⟨rfl, HD.out⟩
                · have _ : (r : Int) < (m : Int) := by have := HE.out; omega
                  have _ : (m : Int) < (e : Int) := by have := HE.out; omega
                  have _ : (r : Int) < (mid : Int) := by have := HE.out; omega
                  have _ : (mid : Int) < (e : Int) := by have := HE.out; omega
                  have _ : (a : Int) < (r : Int) := by have := HE.out; omega
                  have _ : ¬ (e : Int) < (b : Int) := by have := HE.out; omega
                  have _ := HE.out
                  have cR := H3.out.rot wr S1.out (by omega) (by omega)
                  go_wp2_with fail
                  go_at_fn 41
                  refine cR.mono ?_
                  rintro x w1 ⟨rfl, hw1⟩
                  have HA : Aside (St1 enc k w0 blk off (ltOf cf) a r mid e b d w1) := hw1
                  clear hw1 cR
                  have cL := H3.out.low w1 HA.out (by omega) (by omega)
                  go_wp2_with fail
                  go_at_fn 38
                  refine cL.mono ?_
                  rintro x w2 ⟨rfl, hw2⟩
                  have HB : Aside (St2 enc k w0 blk off (ltOf cf) a r mid e b d w2) := hw2
                  clear hw2 cL
                  have HD : Aside (MRet enc k w0 blk off (ltOf cf) a b d w2) := HB.out.skip (by omega)
                  go_wp2
                  go_end0
                  exact ⟨rfl, HD.out⟩
              · by_cases x4 : e < b
                · have _ : (r : Int) < (m : Int) := by have := HE.out; omega
                  have _ : (m : Int) < (e : Int) := by have := HE.out; omega
                  have _ : (r : Int) < (mid : Int) := by have := HE.out; omega
                  have _ : (mid : Int) < (e : Int) := by have := HE.out; omega
                  have _ : ¬ (a : Int) < (r : Int) := by have := HE.out; omega
                  have _ : (e : Int) < (b : Int) := by have := HE.out; omega
                  have _ := HE.out
                  have cR := H3.out.rot wr S1.out (by omega) (by omega)
                  go_wp2_with fail
                  go_at_fn 41
                  refine cR.mono ?_
                  rintro x w1 ⟨rfl, hw1⟩
                  have HA : Aside (St1 enc k w0 blk off (ltOf cf) a r mid e b d w1) := hw1
                  clear hw1 cR
                  have HB : Aside (St2 enc k w0 blk off (ltOf cf) a r mid e b d w1) := HA.out.skip (by omega)
                  have cH := H3.out.high w1 HB.out (by omega) (by omega)
                  go_wp2_with fail
                  go_at_fn 38
                  refine cH.mono ?_
                  rintro x w3 ⟨rfl, hw3⟩
                  have HD : Aside (MRet enc k w0 blk off (ltOf cf) a b d w3) := hw3
                  clear hw3 cH
                  go_wp2
                  go_end0
                  exact ⟨rfl, HD.out⟩
                · have _ : (r : Int) < (m : Int) := by have := HE.out; omega
                  have _ : (m : Int) < (e : Int) := by have := HE.out; omega
                  have _ : (r : Int) < (mid : Int) := by have := HE.out; omega
                  have _ : (mid : Int) < (e : Int) := by have := HE.out; omega
                  have _ : ¬ (a : Int) < (r : Int) := by have := HE.out; omega
                  have _ : ¬ (e : Int) < (b : Int) := by have := HE.out; omega
                  have _ := HE.out
                  have cR := H3.out.rot wr S1.out (by omega) (by omega)
                  go_wp2_with fail
                  go_at_fn 41
                  refine cR.mono ?_
                  rintro x w1 ⟨rfl, hw1⟩
                  have HA : Aside (St1 enc k w0 blk off (ltOf cf) a r mid e b d w1) := hw1
                  clear hw1 cR
                  have HB : Aside (St2 enc k w0 blk off (ltOf cf) a r mid e b d w1) := HA.out.skip (by omega)
                  have HD : Aside (MRet enc k w0 blk off (ltOf cf) a b d w1) := HB.out.skip (by omega)
                  go_wp2
                  go_end0
                  exact ⟨rfl, HD.out⟩
            · have _ : (r : Int) < (m : Int) := by have := HE.out; omega
              have _ : ¬ (m : Int) < (e : Int) := by have := HE.out; omega
              have _ : (a : Int) < (r : Int) := by have := HE.out; omega
              have _ : ¬ (r : Int) < (mid : Int) := by have := HE.out; omega
              have _ : (mid : Int) < (e : Int) := by have := HE.out; omega
              have _ : (e : Int) < (b : Int) := by have := HE.out; omega
              have _ := HE.out
              have HA : Aside (St1 enc k w0 blk off (ltOf cf) a r mid e b d wr) := H3.out.still wr S1.out (by omega)
              have HB : Aside (St2 enc k w0 blk off (ltOf cf) a r mid e b d wr) := HA.out.skip (by omega)
              have cH := H3.out.high wr HB.out (by omega) (by omega)
              go_wp2_with fail
              go_at_fn 38
              refine cH.mono ?_
              rintro x w3 ⟨rfl, hw3⟩
              have HD : Aside (MRet enc k w0 blk off (ltOf cf) a b d w3) := hw3
              clear hw3 cH
              go_wp2
              go_end0
              exact ⟨rfl, HD.out⟩
          · by_cases x2 : r < mid
            · have _ : ¬ (r : Int) < (m : Int) := by have := HE.out; omega
              have _ : (a : Int) < (r : Int) := by have := HE.out; omega
              have _ : (r : Int) < (mid : Int) := by have := HE.out; omega
              have _ : ¬ (mid : Int) < (e : Int) := by have := HE.out; omega
              have _ := HE.out
              have HA : Aside (St1 enc k w0 blk off (ltOf cf) a r mid e b d wr) := H3.out.still wr S1.out (by omega)
              have cL := H3.out.low wr HA.out (by omega) (by omega)
              go_wp2_with fail
              go_at_fn 38
              refine cL.mono ?_
              rintro x w2 ⟨rfl, hw2⟩
              have HB : Aside (St2 enc k w0 blk off (ltOf cf) a r mid e b d w2) := hw2
              clear hw2 cL
              have HD : Aside (MRet enc k w0 blk off (ltOf cf) a b d w2) := HB.out.skip (by omega)
              go_wp2
              go_end0
              exact ⟨rfl, HD.out⟩
            · have _ : ¬ (r : Int) < (m : Int) := by have := HE.out; omega
              have _ : (a : Int) < (r : Int) := by have := HE.out; omega
              have _ : ¬ (r : Int) < (mid : Int) := by have := HE.out; omega
              have _ : ¬ (mid : Int) < (e : Int) := by have := HE.out; omega
              have _ := HE.out
              have HA : Aside (St1 enc k w0 blk off (ltOf cf) a r mid e b d wr) := H3.out.still wr S1.out (by omega)
              have HB : Aside (St2 enc k w0 blk off (ltOf cf) a r mid e b d wr) := HA.out.skip (by omega)
              have HD : Aside (MRet enc k w0 blk off (ltOf cf) a b d wr) := HB.out.skip (by omega)
              go_wp2
              go_end0
              exact ⟨rfl, HD.out⟩
end Go.Proofs.Ythjblamfkfclhaa
