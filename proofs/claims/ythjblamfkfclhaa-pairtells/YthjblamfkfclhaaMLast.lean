/- slices.symMergeCmpFunc at structs, where the right part is of one element. -/
import Derived.Test.YthjblamfkfclhaaMOne
namespace Go.Proofs.Ythjblamfkfclhaa
open Go.Shelf Go.RowKit Go.Lib Go.Sort
variable {P : Program} {k : Nat}

/-- Where d[m] belongs, in [a, m): below i it is ahead of none, from j on of each. -/
def FindHi (lt : Nat → Nat → Bool) (a m : Nat) (d : Array Nat) (i j : Nat) : Prop := (∀ p, a ≤ p → p < i → lt d[m]! d[p]! = false) ∧ ∀ p, j ≤ p → p < m → lt d[m]! d[p]! = true
theorem findHi_up {lt : Nat → Nat → Bool} {a m b i j h : Nat} {d : Array Nat} (hO : SWO lt) (hM : MIn lt a m b d) (hmb : m < b) (hf : FindHi lt a m d i j) (ha : a ≤ h) (hm : h < m) (hl : lt d[m]! d[h]! = false) : FindHi lt a m d (h + 1) j := by
  have hS := lex_swo hO
  have hx : ∀ p, a ≤ p → p < m → lex lt d[m]! d[p]! = lt d[m]! d[p]! := fun p h1 h2 => lex_up (hM.cross p m h1 h2 (Nat.le_refl _) hmb)
  refine ⟨fun p h1 h2 => ?_, hf.2⟩
  by_cases hp : p = h
  · rw [hp]; exact hl
  · rw [← hx p h1 (by omega)]
    rw [← hx h ha hm] at hl
    exact hS.ntrans _ _ _ hl (hM.left p h h1 (by omega) hm)
theorem findHi_down {lt : Nat → Nat → Bool} {a m b i j h : Nat} {d : Array Nat} (hO : SWO lt) (hM : MIn lt a m b d) (hmb : m < b) (hf : FindHi lt a m d i j) (ha : a ≤ h) (hm : h < m) (hl : lt d[m]! d[h]! = true) : FindHi lt a m d i h := by
  have hS := lex_swo hO
  have hx : ∀ p, a ≤ p → p < m → lex lt d[m]! d[p]! = lt d[m]! d[p]! := fun p h1 h2 => lex_up (hM.cross p m h1 h2 (Nat.le_refl _) hmb)
  refine ⟨hf.1, fun p h1 h2 => ?_⟩
  by_cases hp : p = h
  · rw [hp]; exact hl
  · rw [← hx p (by omega) h2]
    rw [← hx h ha hm] at hl
    cases e : lex lt d[m]! d[p]! with
    | true => rfl
    | false => rw [hS.ntrans _ _ _ e (hM.left h p ha (by omega) h2)] at hl; cases hl
/-- d[m] was brought to place q. -/
def MovedDn (a m b : Nat) (d : Array Nat) (q : Nat) (dk : Array Nat) : Prop := PermIn a b d dk ∧ (∀ p, p < q → dk[p]! = d[p]!) ∧ dk[q]! = d[m]! ∧ ∀ p, q < p → p ≤ m → dk[p]! = d[p - 1]!
theorem movedDn_step {a m b q : Nat} {d dk : Array Nat} (h : MovedDn a m b d (q + 1) dk) (haq : a ≤ q) (hq : q + 1 < b) (hb : b ≤ dk.size) : MovedDn a m b d q (swp dk (q + 1) q) := by
  obtain ⟨h1, h2, h3, h4⟩ := h
  have g := swp_get dk (show q + 1 < dk.size by omega) (show q < dk.size by omega)
  refine ⟨permIn_trans _ _ _ _ _ h1 (swp_permIn dk a b (q + 1) q (by omega) hq haq (by omega) hb), fun p k1 => ?_, ?_, fun p k1 k2 => ?_⟩
  · rw [g, if_neg (by omega), if_neg (by omega)]; exact h2 p (by omega)
  · rw [g, if_pos rfl]; exact h3
  · rw [g, if_neg (by omega)]
    by_cases e : p = q + 1
    · rw [if_pos e, e, h2 _ (by omega)]; rfl
    · rw [if_neg e]; exact h4 p (by omega) k2
theorem movedDn_done {lt : Nat → Nat → Bool} {a m b i : Nat} {d dk : Array Nat} (hO : SWO lt) (hM : MIn lt a m b d) (hm : b = m + 1) (hi1 : a ≤ i) (hi2 : i ≤ m) (hf : FindHi lt a m d i i) (h : MovedDn a m b d i dk) : MOut lt a b d dk :=
  hM.last hO hm hi1 hi2 hf.1 hf.2 h.1 h.2.1 h.2.2.1 h.2.2.2
set_option maxHeartbeats 8000000 in
set_option maxRecDepth 1000000 in
theorem symMerge_last (L : StLays P k) (enc : Nat → List Value) (cf : Nat → Nat → Int) (g : Nat) (cb : Array Value) (blk off cap a m b : Nat) (d0 d : Array Nat) (w0 w : World)
    (eg : ∀ args w, (callFunc g args).run P w = .ok (.enter g args) w) (hcmp : CmpLays P g cb enc k cf blk off d0.size w0) (hO : SWO (ltOf cf)) (R : RowK enc k w0 blk off d0) (hs : d0.size = d.size) (S : SWK enc k w0 blk off d w)
    (hM : MIn (ltOf cf) a m b d) (hma : m ≠ a + 1) (hm : b = m + 1) (hsz : d.size < 4611686018427387904) :
    Calls P 38 #[.slice (some ⟨blk, off, none⟩) d.size cap, .int .i64 a, .int .i64 m, .int .i64 b, .func (.func g) #[] cb] w fun e w' => e = .returned (.tuple #[]) ∧ MRet enc k w0 blk off (ltOf cf) a b d w' := by
  have mixed := L.mixed; have t0 := L.t0; have a0 := L.a0; have z0 := L.z0; have v0 := L.v0; have t3 := L.t3; have a3 := L.a3; have z3 := L.z3; have v3 := L.v3; have t4 := L.t4; have a4 := L.a4; have z4 := L.z4; have v4 := L.v4; have t84 := L.t84; have a84 := L.a84; have z84 := L.z84; have v84 := L.v84; have t23 := L.t23; have a23 := L.a23; have z23 := L.z23; have v23 := L.v23; have t57 := L.t57; have a57 := L.a57; have z57 := L.z57; have v57 := L.v57; have aE := L.aE; have zE := L.zE
  have S0 : Aside (SWK enc k w0 blk off d w) := S
  have HM : Aside (MIn (ltOf cf) a m b d) := hM
  have HC : Aside (CmpLays P g cb enc k cf blk off d0.size w0) := hcmp
  have ham := hM.am
  have hbs := hM.le
  have hmaI : ((m : Int) - (a : Int) == 1) = false := beq_eq_false_iff_ne.2 (by omega)
  have hbm : (b : Int) - (m : Int) = 1 := by omega
  have HM1 := Lib.hid hm
  clear S hM hcmp hm hma
  go_enter L.f38, Try.ntmps38
  go_wp2
  go_loopg [14, 15] (m - a) (fun kx s t wr => ∃ i j : Nat, s = .int .i64 (i : Int) ∧ t = .int .i64 (j : Int) ∧ a ≤ i ∧ i ≤ j ∧ j ≤ m ∧ j - i ≤ kx ∧ Aside (SWK enc k w0 blk off d wr) ∧ Aside (FindHi (ltOf cf) a m d i j))
  case atStart => exact ⟨a, m, rfl, rfl, by omega, by omega, by omega, Nat.le_refl _, S0, ⟨fun p h1 h2 => absurd h2 (by omega), fun p h1 h2 => absurd h2 (by omega)⟩⟩
  case round =>
    clear S0
    obtain ⟨i, j, rfl, rfl, hmi, hij, hjb, hkx, S1, hf⟩ := hrel
    by_cases hlt : i < j
    · have hltI : (i : Int) < (j : Int) := by omega
      obtain ⟨h, hh⟩ : ∃ h : Nat, h = (i + j) / 2 := ⟨_, rfl⟩
      have hhI : ((i : Int) + (j : Int)) / 2 = (h : Int) := by omega
      have r1 : IntKind.i64.wrap ((i : Int) + (j : Int)) = (i : Int) + (j : Int) := by rw [IntKind.wrap_i64]; omega
      have r2 : IntKind.u64.wrap ((i : Int) + (j : Int)) = (i : Int) + (j : Int) := by rw [IntKind.wrap_u64]; omega
      have r3 : IntKind.i64.wrap (h : Int) = (h : Int) := by rw [IntKind.wrap_i64]; omega
      have r4 : IntKind.u64.wrap (h : Int) = (h : Int) := by rw [IntKind.wrap_u64]; omega
      have hih : i ≤ h := by omega
      have hhj : h < j := by omega
      clear hh
      have eh : ((h : Int)).toNat = h := by omega
      have bh : (h : Int) < (d.size : Int) := by omega
      have ba : (m : Int) < (d.size : Int) := by omega
      have l1 := fun n os => S1.out.ld R (by omega) P h (by omega) n os
      have l2 := fun n os => S1.out.ld R (by omega) P m (by omega) n os
      have hcg := fun n os => S1.out.cmp HC.out (by omega) d[m]! d[h]! n os
      generalize hxh : enc d[h]! = ch at l1 hcg
      generalize hxa : enc d[m]! = ca at l2 hcg
      generalize hc : cf d[m]! d[h]! = c at hcg
      have HLV : Aside (ltOf cf d[m]! d[h]! = decide (c < 0)) := by show decide (cf d[m]! d[h]! < 0) = _; rw [hc]
      clear hxh hxa hc
      by_cases hcz : c < 0
      · go_wp2_with fail
        go_quiet_grown (first | (go_at_fn g; refine Calls.grown_of (hcg _ _)))
        have S2 : Aside (SWK enc k w0 blk off d (grow (wr.drewN nq) osq)) := S1.out.grown nq osq
        clear l1 l2 hcg
        generalize grow (wr.drewN nq) osq = w2 at S2 ⊢
        go_wp2
        go_roundg (h - i)
        case measure => omega
        case rel => exact ⟨i, h, rfl, rfl, hmi, hih, by omega, Nat.le_refl _, S2, findHi_down hO HM.out (by omega) hf.out (by omega) (by omega) (by rw [HLV.out]; exact decide_eq_true hcz)⟩
      · have hc1 : decide (c < 0) = false := decide_eq_false hcz
        have hc2 : decide (0 ≤ c) = true := decide_eq_true (by omega)
        have hc3 : (!decide (c < 0)) = true := by rw [hc1]; rfl
        go_wp2_with fail
        go_quiet_grown (first | (go_at_fn g; refine Calls.grown_of (hcg _ _)))
        have S2 : Aside (SWK enc k w0 blk off d (grow (wr.drewN nq) osq)) := S1.out.grown nq osq
        clear l1 l2 hcg
        generalize grow (wr.drewN nq) osq = w2 at S2 ⊢
        go_wp2
        go_roundg (j - (h + 1))
        case measure => omega
        case rel => exact ⟨h + 1, j, by simp, rfl, by omega, by omega, hjb, Nat.le_refl _, S2, findHi_up hO HM.out (by omega) hf.out (by omega) (by omega) (by rw [HLV.out]; exact decide_eq_false (by omega))⟩
    · have hltI : ¬ (i : Int) < (j : Int) := by omega
      have e : j = i := by omega
      subst e
      go_wp2
      go_loopg [17] (m - j) (fun kx s wr => ∃ (q : Nat) (dk : Array Nat), s = .int .i64 (q : Int) ∧ j ≤ q ∧ q ≤ m ∧ q - j ≤ kx ∧ dk.size = d.size ∧ Aside (SWK enc k w0 blk off dk wr) ∧ Aside (MovedDn a m b d q dk))
      case atStart => exact ⟨m, d, rfl, by omega, by omega, Nat.le_refl _, rfl, S1, ⟨permIn_refl _ _ _, fun p _ => rfl, rfl, fun p h1 h2 => absurd h2 (by omega)⟩⟩
      case round =>
        clear S1
        obtain ⟨q, dk, rfl, haq, hqj, hkx2, hds, S1, hmv⟩ := hrel
        by_cases hlt2 : j < q
        · obtain ⟨jp, rfl⟩ : ∃ jp, q = jp + 1 := ⟨q - 1, by omega⟩
          have hlt2I : (j : Int) < (jp : Int) + 1 := by omega
          go_wp2_with fail
          have ea : ((jp : Int)).toNat = jp := by omega
          have ba : (jp : Int) < (d.size : Int) := by omega
          have ra : IntKind.i64.wrap (jp : Int) = (jp : Int) := by rw [IntKind.wrap_i64]; omega
          have eb : ((jp : Int) + 1).toNat = jp + 1 := by omega
          have pb : (0 : Int) ≤ (jp : Int) + 1 := by omega
          have bb : (jp : Int) + 1 < (d.size : Int) := by omega
          have S2 : Aside (SWK enc k w0 blk off (swp dk (jp + 1) jp) ((wr.drew.setCells blk (off + (jp + 1) * k) (enc dk[jp]!)).setCells blk (off + jp * k) (enc dk[jp + 1]!))) := S1.out.swapped R (jp + 1) jp (by omega) (by omega)
          have l1 := S1.out.ld1 R (by omega) P jp (by omega)
          have l2 := S1.out.ld1 R (by omega) P (jp + 1) (by omega)
          have s1 := S1.out.st1 R (by omega) P (jp + 1) (by omega) dk[jp]!
          have s2 := S1.out.st2 R (by omega) P (jp + 1) jp (by omega) (by omega) dk[jp]! dk[jp + 1]!
          have n1 : (enc dk[jp]!).length = k := R.hk _
          have n2 : (enc dk[jp + 1]!).length = k := R.hk _
          generalize enc dk[jp]! = cI at S2 l1 s1 s2 n1
          generalize enc dk[jp + 1]! = cJ at S2 l2 s2 n2
          clear S1
          go_wp2_with fail
          go_big_region_o
          clear l1 l2 s1 s2
          generalize (wr.drew.setCells blk (off + (jp + 1) * k) cI).setCells blk (off + jp * k) cJ = w2 at S2 ⊢
          go_wp2
          go_roundg (jp - j)
          case measure => omega
          case rel => exact ⟨jp, swp dk (jp + 1) jp, by first | rfl | (congr 1; omega), by omega, by omega, Nat.le_refl _, by rw [size_swp]; exact hds, S2, movedDn_step hmv.out (by omega) (by omega) (by omega)⟩
        · have hlt2I : ¬ (j : Int) < (q : Int) := by omega
          have e : q = j := by omega
          subst e
          go_wp2
          (try simp only [Exit.inBlock, Exit.then]); refine bodyPost_ret (results_none rfl _ _ _) rfl ?_
          exact ⟨rfl, dk, S1.out, movedDn_done hO HM.out HM1.out hmi hjb hf.out hmv.out⟩
end Go.Proofs.Ythjblamfkfclhaa
