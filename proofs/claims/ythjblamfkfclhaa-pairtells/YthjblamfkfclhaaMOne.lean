/- slices.symMergeCmpFunc at structs, where one part is of one element. -/
import Derived.Test.YthjblamfkfclhaaRot
namespace Go.Proofs.Ythjblamfkfclhaa
open Go.Shelf Go.RowKit Go.Lib Go.Sort
variable {P : Program} {k : Nat}

/-- Behind a merge. -/
def MRet (enc : Nat → List Value) (k : Nat) (w0 : World) (blk off : Nat) (lt : Nat → Nat → Bool) (a b : Nat) (d : Array Nat) (w' : World) : Prop :=
  ∃ d', SWK enc k w0 blk off d' w' ∧ MOut lt a b d d'
/-- Where d[a] belongs, in [m, b): below i each is ahead of it, from j on none is. -/
def FindLo (lt : Nat → Nat → Bool) (a m b : Nat) (d : Array Nat) (i j : Nat) : Prop := (∀ p, m ≤ p → p < i → lt d[p]! d[a]! = true) ∧ ∀ p, j ≤ p → p < b → lt d[p]! d[a]! = false
theorem findLo_up {lt : Nat → Nat → Bool} {a m b i j h : Nat} {d : Array Nat} (hO : SWO lt) (hM : MIn lt a m b d) (ham : a < m) (hf : FindLo lt a m b d i j) (hm : m ≤ h) (hb : h < b) (hl : lt d[h]! d[a]! = true) : FindLo lt a m b d (h + 1) j := by
  have hS := lex_swo hO
  have hx : ∀ p, m ≤ p → p < b → lex lt d[p]! d[a]! = lt d[p]! d[a]! := fun p h1 h2 => lex_up (hM.cross a p (Nat.le_refl _) ham h1 h2)
  refine ⟨fun p h1 h2 => ?_, hf.2⟩
  by_cases hp : p = h
  · rw [hp]; exact hl
  · rw [← hx p h1 (by omega)]
    rw [← hx h hm hb] at hl
    cases e : lex lt d[p]! d[a]! with
    | true => rfl
    | false => rw [hS.ntrans _ _ _ (hM.right p h h1 (by omega) hb) e] at hl; cases hl
theorem findLo_down {lt : Nat → Nat → Bool} {a m b i j h : Nat} {d : Array Nat} (hO : SWO lt) (hM : MIn lt a m b d) (ham : a < m) (hf : FindLo lt a m b d i j) (hm : m ≤ h) (hb : h < b) (hl : lt d[h]! d[a]! = false) : FindLo lt a m b d i h := by
  have hS := lex_swo hO
  have hx : ∀ p, m ≤ p → p < b → lex lt d[p]! d[a]! = lt d[p]! d[a]! := fun p h1 h2 => lex_up (hM.cross a p (Nat.le_refl _) ham h1 h2)
  refine ⟨hf.1, fun p h1 h2 => ?_⟩
  by_cases hp : p = h
  · rw [hp]; exact hl
  · rw [← hx p (by omega) h2]
    rw [← hx h hm hb] at hl
    exact hS.ntrans _ _ _ (hM.right h p hm (by omega) h2) hl
/-- d[a] was brought to place q. -/
def MovedUp (a b : Nat) (d : Array Nat) (q : Nat) (dk : Array Nat) : Prop := PermIn a b d dk ∧ (∀ p, a ≤ p → p < q → dk[p]! = d[p + 1]!) ∧ dk[q]! = d[a]! ∧ ∀ p, q < p → dk[p]! = d[p]!
theorem movedUp_step {a b q : Nat} {d dk : Array Nat} (h : MovedUp a b d q dk) (haq : a ≤ q) (hq : q + 1 < b) (hb : b ≤ dk.size) : MovedUp a b d (q + 1) (swp dk q (q + 1)) := by
  obtain ⟨h1, h2, h3, h4⟩ := h
  have g := swp_get dk (show q < dk.size by omega) (show q + 1 < dk.size by omega)
  refine ⟨permIn_trans _ _ _ _ _ h1 (swp_permIn dk a b q (q + 1) haq (by omega) (by omega) hq hb), fun p k1 k2 => ?_, ?_, fun p k1 => ?_⟩
  · rw [g, if_neg (by omega)]
    by_cases e : p = q
    · rw [if_pos e, e, h4 _ (by omega)]
    · rw [if_neg e]; exact h2 p k1 (by omega)
  · rw [g, if_pos rfl]; exact h3
  · rw [g, if_neg (by omega), if_neg (by omega)]; exact h4 p (by omega)
theorem movedUp_done {lt : Nat → Nat → Bool} {a m b i : Nat} {d dk : Array Nat} (hO : SWO lt) (hM : MIn lt a m b d) (hm : m = a + 1) (hi1 : m ≤ i) (hi2 : i ≤ b) (hf : FindLo lt a m b d i i) (h : MovedUp a b d (i - 1) dk) : MOut lt a b d dk :=
  hM.one hO hm hi1 hi2 hf.1 hf.2 h.1 h.2.1 h.2.2.1 fun p hp => h.2.2.2 p (by omega)
set_option maxHeartbeats 8000000 in
set_option maxRecDepth 1000000 in
theorem symMerge_one (L : StLays P k) (enc : Nat → List Value) (cf : Nat → Nat → Int) (g : Nat) (cb : Array Value) (blk off cap a m b : Nat) (d0 d : Array Nat) (w0 w : World)
    (eg : ∀ args w, (callFunc g args).run P w = .ok (.enter g args) w) (hcmp : CmpLays P g cb enc k cf blk off d0.size w0) (hO : SWO (ltOf cf)) (R : RowK enc k w0 blk off d0) (hs : d0.size = d.size) (S : SWK enc k w0 blk off d w)
    (hM : MIn (ltOf cf) a m b d) (hm : m = a + 1) (hsz : d.size < 4611686018427387904) :
    Calls P 38 #[.slice (some ⟨blk, off, none⟩) d.size cap, .int .i64 a, .int .i64 m, .int .i64 b, .func (.func g) #[] cb] w fun e w' => e = .returned (.tuple #[]) ∧ MRet enc k w0 blk off (ltOf cf) a b d w' := by
  have mixed := L.mixed; have t0 := L.t0; have a0 := L.a0; have z0 := L.z0; have v0 := L.v0; have t3 := L.t3; have a3 := L.a3; have z3 := L.z3; have v3 := L.v3; have t4 := L.t4; have a4 := L.a4; have z4 := L.z4; have v4 := L.v4; have t84 := L.t84; have a84 := L.a84; have z84 := L.z84; have v84 := L.v84; have t23 := L.t23; have a23 := L.a23; have z23 := L.z23; have v23 := L.v23; have t57 := L.t57; have a57 := L.a57; have z57 := L.z57; have v57 := L.v57; have aE := L.aE; have zE := L.zE
  have S0 : Aside (SWK enc k w0 blk off d w) := S
  have HM : Aside (MIn (ltOf cf) a m b d) := hM
  have HC : Aside (CmpLays P g cb enc k cf blk off d0.size w0) := hcmp
  have hmb := hM.mb
  have hbs := hM.le
  have hma : (m : Int) - (a : Int) = 1 := by omega
  have HM1 := Lib.hid hm
  clear S hM hcmp hm
  go_enter L.f38, Try.ntmps38
  go_wp2
  go_loopg [10, 11] (b - m) (fun kx s t wr => ∃ i j : Nat, s = .int .i64 (i : Int) ∧ t = .int .i64 (j : Int) ∧ m ≤ i ∧ i ≤ j ∧ j ≤ b ∧ j - i ≤ kx ∧ Aside (SWK enc k w0 blk off d wr) ∧ Aside (FindLo (ltOf cf) a m b d i j))
  case atStart => exact ⟨m, b, rfl, rfl, by omega, by omega, by omega, Nat.le_refl _, S0, ⟨fun p h1 h2 => absurd h2 (by omega), fun p h1 h2 => absurd h2 (by omega)⟩⟩
  case round =>
    clear S0
    obtain ⟨i, j, rfl, rfl, hmi, hij, hjb, hkx, S1, hf⟩ := hrel
    by_cases hlt : i < j
    · have hltI : (i : Int) < (j : Int) := by omega
      obtain ⟨h, hh⟩ : ∃ h : Nat, h = (i + j) / 2 := ⟨_, rfl⟩
      have hhI : ((i : Int) + (j : Int)) / 2 = (h : Int) := by omega
      have r1 : IntKind.i64.wrap ((i : Int) + (j : Int)) = (i : Int) + (j : Int) := by rw [IntKind.wrap_i64]; omega
      have r2 : IntKind.u64.wrap ((i : Int) + (j : Int)) = (i : Int) + (j : Int) := by rw [IntKind.wrap_u64]; omega
      have r3 : IntKind.i64.wrap (h : Int) = (h : Int) := by rw [IntKind.wrap_i64]; omega
      have r4 : IntKind.u64.wrap (h : Int) = (h : Int) := by rw [IntKind.wrap_u64]; omega
      have hih : i ≤ h := by omega
      have hhj : h < j := by omega
      clear hh
      have eh : ((h : Int)).toNat = h := by omega
      have bh : (h : Int) < (d.size : Int) := by omega
      have ba : (a : Int) < (d.size : Int) := by omega
      have l1 := fun n os => S1.out.ld R (by omega) P h (by omega) n os
      have l2 := fun n os => S1.out.ld R (by omega) P a (by omega) n os
      have hcg := fun n os => S1.out.cmp HC.out (by omega) d[h]! d[a]! n os
      generalize hxh : enc d[h]! = ch at l1 hcg
      generalize hxa : enc d[a]! = ca at l2 hcg
      generalize hc : cf d[h]! d[a]! = c at hcg
      have HLV : Aside (ltOf cf d[h]! d[a]! = decide (c < 0)) := by show decide (cf d[h]! d[a]! < 0) = _; rw [hc]
      clear hxh hxa hc
      by_cases hcz : c < 0
      · go_wp2_with fail
        go_quiet_grown (first | (go_at_fn g; refine Calls.grown_of (hcg _ _)))
        have S2 : Aside (SWK enc k w0 blk off d (grow (wr.drewN nq) osq)) := S1.out.grown nq osq
        clear l1 l2 hcg
        generalize grow (wr.drewN nq) osq = w2 at S2 ⊢
        go_wp2
        go_roundg (j - (h + 1))
        case measure => omega
        case rel => exact ⟨h + 1, j, by simp, rfl, by omega, by omega, hjb, Nat.le_refl _, S2, findLo_up hO HM.out (by omega) hf.out (by omega) (by omega) (by rw [HLV.out]; exact decide_eq_true hcz)⟩
      · go_wp2_with fail
        go_quiet_grown (first | (go_at_fn g; refine Calls.grown_of (hcg _ _)))
        have S2 : Aside (SWK enc k w0 blk off d (grow (wr.drewN nq) osq)) := S1.out.grown nq osq
        clear l1 l2 hcg
        generalize grow (wr.drewN nq) osq = w2 at S2 ⊢
        go_wp2
        go_roundg (h - i)
        case measure => omega
        case rel => exact ⟨i, h, rfl, rfl, hmi, hih, by omega, Nat.le_refl _, S2, findLo_down hO HM.out (by omega) hf.out (by omega) (by omega) (by rw [HLV.out]; exact decide_eq_false (by omega))⟩
    · have hltI : ¬ (i : Int) < (j : Int) := by omega
      have e : j = i := by omega
      subst e
      go_wp2
      go_loopg [13] (j - a) (fun kx s wr => ∃ (q : Nat) (dk : Array Nat), s = .int .i64 (q : Int) ∧ a ≤ q ∧ q ≤ j - 1 ∧ j - q ≤ kx ∧ dk.size = d.size ∧ Aside (SWK enc k w0 blk off dk wr) ∧ Aside (MovedUp a b d q dk))
      case atStart => exact ⟨a, d, rfl, Nat.le_refl _, by omega, Nat.le_refl _, rfl, S1, ⟨permIn_refl _ _ _, fun p h1 h2 => absurd h2 (by omega), rfl, fun p _ => rfl⟩⟩
      case round =>
        clear S1
        obtain ⟨q, dk, rfl, haq, hqj, hkx2, hds, S1, hmv⟩ := hrel
        by_cases hlt2 : q < j - 1
        · have hlt2I : (q : Int) < (j : Int) - 1 := by omega
          go_wp2_with fail
          have ea : ((q : Int)).toNat = q := by omega
          have ba : (q : Int) < (d.size : Int) := by omega
          have eb : ((q : Int) + 1).toNat = q + 1 := by omega
          have pb : (0 : Int) ≤ (q : Int) + 1 := by omega
          have bb : (q : Int) + 1 < (d.size : Int) := by omega
          have rb : IntKind.i64.wrap ((q : Int) + 1) = (q : Int) + 1 := by rw [IntKind.wrap_i64]; omega
          have S2 : Aside (SWK enc k w0 blk off (swp dk q (q + 1)) ((wr.drew.setCells blk (off + q * k) (enc dk[q + 1]!)).setCells blk (off + (q + 1) * k) (enc dk[q]!))) := S1.out.swapped R q (q + 1) (by omega) (by omega)
          have l1 := S1.out.ld1 R (by omega) P q (by omega)
          have l2 := S1.out.ld1 R (by omega) P (q + 1) (by omega)
          have s1 := S1.out.st1 R (by omega) P q (by omega) dk[q + 1]!
          have s2 := S1.out.st2 R (by omega) P q (q + 1) (by omega) (by omega) dk[q + 1]! dk[q]!
          have n1 : (enc dk[q]!).length = k := R.hk _
          have n2 : (enc dk[q + 1]!).length = k := R.hk _
          generalize enc dk[q]! = cI at S2 l1 s2 n1
          generalize enc dk[q + 1]! = cJ at S2 l2 s1 s2 n2
          clear S1
          go_wp2_with fail
          go_big_region_o
          clear l1 l2 s1 s2
          generalize (wr.drew.setCells blk (off + q * k) cJ).setCells blk (off + (q + 1) * k) cI = w2 at S2 ⊢
          go_wp2
          go_roundg (j - (q + 1))
          case measure => omega
          case rel => exact ⟨q + 1, swp dk q (q + 1), by simp, by omega, by omega, Nat.le_refl _, by rw [size_swp]; exact hds, S2, movedUp_step hmv.out haq (by omega) (by omega)⟩
        · have hlt2I : ¬ (q : Int) < (j : Int) - 1 := by omega
          have e : q = j - 1 := by omega
          subst e
          go_wp2
          (try simp only [Exit.inBlock, Exit.then]); refine bodyPost_ret (results_none rfl _ _ _) rfl ?_
          exact ⟨rfl, dk, S1.out, movedUp_done hO HM.out HM1.out hmi hjb hf.out hmv.out⟩
end Go.Proofs.Ythjblamfkfclhaa
