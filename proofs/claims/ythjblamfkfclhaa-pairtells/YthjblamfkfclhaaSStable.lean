/- slices.stableCmpFunc and slices.SortStableFunc at structs. -/
import Derived.Test.YthjblamfkfclhaaMerge
import Derived.Test.YthjblamfkfclhaaBlocks
namespace Go.Proofs.Ythjblamfkfclhaa
open Go.Shelf Go.RowKit Go.Lib Go.Sort
variable {P : Program} {k : Nat}

def stRen : Ren where
  f := fun x => match x with
    | 20 => 37
    | n => n
  t := fun x => match x with
    | 22 => 23
    | 24 => 33
    | 25 => 57
    | 3 => 3
    | 0 => 0
    | 4 => 4
    | n => n
  g := fun x => x
theorem stIns (L : StLays P k) : SlLaysF0.n20 P stRen where
  mixed := L.mixed
  f20 := ⟨Try.f37.name, by kernel_rfl, L.f37.trans (by kernel_rfl)⟩
  t0 := L.t0
  a0 := L.a0
  z0 := L.z0
  v0 := L.v0
  t3 := L.t3
  a3 := L.a3
  z3 := L.z3
  v3 := L.v3
  t4 := L.t4
  a4 := L.a4
  z4 := L.z4
  v4 := L.v4
  t22 := L.t23
  a22 := L.a23
  z22 := L.z23
  v22 := L.v23
  t25 := L.t57
  a25 := L.a57
  z25 := L.z57
  v25 := L.v57
theorem ins_any (L : StLays P k) (enc : Nat → List Value) (cf : Nat → Nat → Int) (g : Nat) (cb : Array Value) (blk off cap a b : Nat) (d0 d : Array Nat) (w0 w : World)
    (eg : ∀ args w, (callFunc g args).run P w = .ok (.enter g args) w) (hcmp : CmpLays P g cb enc k cf blk off d0.size w0) (hO : SWO (ltOf cf)) (R : RowK enc k w0 blk off d0) (hs : d0.size = d.size) (S : SWK enc k w0 blk off d w)
    (hab : a ≤ b) (hb : b ≤ d.size) (hsz : d.size < 4611686018427387904) (hup : ∀ p q, a ≤ p → p < q → q < b → d[p]! < d[q]!) :
    Calls P 37 #[.slice (some ⟨blk, off, none⟩) d.size cap, .int .i64 a, .int .i64 b, .func (.func g) #[] cb] w fun e w' => e = .returned (.tuple #[]) ∧ MRet enc k w0 blk off (ltOf cf) a b d w' := by
  have ho := ins_stable hO hab hb hup
  have hC : CmpLays P g cb enc k cf blk off d.size w := fun m os dk hdk x y => by
    obtain ⟨n0, os0, rfl⟩ := S
    rw [sortWorldK_on enc k w0 blk off n0 m d dk os0 os R.hblk hdk]
    exact hcmp _ _ dk (by omega) x y
  refine (AnyQ.insertionSortCmpFunc (stIns L) k L.aE L.zE enc R.hk R.h1 cf g cb blk off cap a b d w eg hC (S.holds R.hblk R.hH hs.symm) (S.lt R.hblk) hab hb hsz).mono ?_
  rintro e w' ⟨rfl, n, os, rfl⟩
  exact ⟨rfl, _, S.on R.hblk n _ os ho.1.1, ho⟩
set_option maxHeartbeats 8000000 in
set_option maxRecDepth 1000000 in
theorem stable_any (L : StLays P k) (enc : Nat → List Value) (cf : Nat → Nat → Int) (g : Nat) (cb : Array Value) (blk off cap : Nat) (d0 d : Array Nat) (w0 w : World)
    (eg : ∀ args w, (callFunc g args).run P w = .ok (.enter g args) w) (hcmp : CmpLays P g cb enc k cf blk off d0.size w0) (hO : SWO (ltOf cf)) (R : RowK enc k w0 blk off d0) (hs : d0.size = d.size) (S : SWK enc k w0 blk off d w)
    (hid : ∀ p, p < d.size → d[p]! = p) (hsz : d.size < 1000000) :
    Calls P 30 #[.slice (some ⟨blk, off, none⟩) d.size cap, .int .i64 d.size, .func (.func g) #[] cb] w fun e w' => e = .returned (.tuple #[]) ∧ MRet enc k w0 blk off (ltOf cf) 0 d.size d w' := by
  have mixed := L.mixed; have t0 := L.t0; have a0 := L.a0; have z0 := L.z0; have v0 := L.v0; have t3 := L.t3; have a3 := L.a3; have z3 := L.z3; have v3 := L.v3; have t4 := L.t4; have a4 := L.a4; have z4 := L.z4; have v4 := L.v4; have t23 := L.t23; have a23 := L.a23; have z23 := L.z23; have v23 := L.v23; have t57 := L.t57; have a57 := L.a57; have z57 := L.z57; have v57 := L.v57
  have e37 : ∀ args w, (callFunc 37 args).run P w = .ok (.enter 37 args) w := enters_of L.f37 (by kernel_rfl) rfl
  have e38 : ∀ args w, (callFunc 38 args).run P w = .ok (.enter 38 args) w := enters_of L.f38 (by kernel_rfl) rfl
  have S0 : Aside (SWK enc k w0 blk off d w) := S
  have HI : Aside (∀ p, p < d.size → d[p]! = p) := hid
  have cI : ∀ (a b : Nat) (dk : Array Nat) (w : World), dk.size = d.size → SWK enc k w0 blk off dk w → a ≤ b → b ≤ d.size → (∀ p q, a ≤ p → p < q → q < b → dk[p]! < dk[q]!) →
      Calls P 37 #[.slice (some ⟨blk, off, none⟩) d.size cap, .int .i64 a, .int .i64 b, .func (.func g) #[] cb] w fun e w' => e = .returned (.tuple #[]) ∧ MRet enc k w0 blk off (ltOf cf) a b dk w' := fun a b dk w h1 h2 h3 h4 h5 => by
    have := ins_any L enc cf g cb blk off cap a b d0 dk w0 w eg hcmp hO R (by omega) h2 h3 (by omega) (by omega) h5
    rwa [h1] at this
  have cM : ∀ (a m b : Nat) (dk : Array Nat) (w : World), dk.size = d.size → SWK enc k w0 blk off dk w → MIn (ltOf cf) a m b dk → a < m → m < b →
      Calls P 38 #[.slice (some ⟨blk, off, none⟩) d.size cap, .int .i64 a, .int .i64 m, .int .i64 b, .func (.func g) #[] cb] w fun e w' => e = .returned (.tuple #[]) ∧ MRet enc k w0 blk off (ltOf cf) a b dk w' := fun a m b dk w h1 h2 h3 h4 h5 => by
    have := symMerge_all L enc cf g cb blk off cap d0 w0 eg hcmp hO R (b - a + 1) a m b dk w (by omega) (by omega) h2 h3 h4 h5 (by omega)
    rwa [h1] at this
  have CI : Aside _ := cI
  have CM : Aside _ := cM
  clear S hid hcmp cI cM
  go_enter L.f30, Try.ntmps30
  go_wp2
  go_loopg [7, 8] d.size (fun kx x y wr => ∃ (A u : Nat) (dk : Array Nat), x = .int .i64 (A : Int) ∧ y = .int .i64 ((A : Int) + 20) ∧ A ≤ d.size ∧ d.size - A ≤ kx ∧ dk.size = d.size ∧ Aside (A = u * 20) ∧ Aside (SWK enc k w0 blk off dk wr) ∧ Aside (FirstBlk (ltOf cf) d d.size 20 u dk))
  case atStart => exact ⟨0, 0, d, rfl, rfl, Nat.zero_le _, Nat.le_refl _, rfl, rfl, S0, firstBlk_start HI.out⟩
  case round =>
    clear S0
    obtain ⟨A, u, dk, rfl, rfl, hA, hkx, hds, HA, S1, HF⟩ := hrel
    by_cases hlt : A + 20 ≤ d.size
    · have hltI : (A : Int) + 20 ≤ (d.size : Int) := by omega
      have cI := CI.out A (A + 20) dk wr hds S1.out (by omega) hlt (fun p q h1 h2 h3 => firstBlk_up HF.out p q (by rw [← HA.out]; exact h1) h2 (by omega))
      rw [show ((A + 20 : Nat) : Int) = (A : Int) + 20 by omega] at cI
      go_wp2_with fail
      go_at_fn 37
      refine cI.mono ?_
      rintro x w1 ⟨rfl, hw1⟩
      have HW : Aside (MRet enc k w0 blk off (ltOf cf) A (A + 20) dk w1) := hw1
      clear hw1 cI
      go_wp2
      go_roundg (d.size - (A + 20))
      case measure => omega
      case rel =>
        obtain ⟨d', S2, ho⟩ := HW.out
        refine ⟨A + 20, u + 1, d', by simp, by first | rfl | (congr 1), hlt, Nat.le_refl _, by rw [ho.1.1]; exact hds, ?_, S2, ?_⟩
        · show A + 20 = _
          rw [mul_next, ← HA.out]
        · have h2 := HA.out
          exact firstBlk_step HF.out (by rw [← h2]; exact hlt) (by omega) (by rw [← h2]; exact ho)
    · have hltI : ¬ (A : Int) + 20 ≤ (d.size : Int) := by omega
      have cI := CI.out A d.size dk wr hds S1.out hA (Nat.le_refl _) (fun p q h1 h2 h3 => firstBlk_up HF.out p q (by rw [← HA.out]; exact h1) h2 (by omega))
      go_wp2_with fail
      go_at_fn 37
      refine cI.mono ?_
      rintro x w1 ⟨rfl, hw1⟩
      have HW : Aside (∃ d', SWK enc k w0 blk off d' w1 ∧ AllBlk (ltOf cf) d d.size 20 d') := by
        obtain ⟨d', S2, ho⟩ := hw1
        have h2 := HA.out
        exact ⟨d', S2, firstBlk_all HF.out (by rw [← h2]; exact hA) (by rw [← h2]; omega) (by omega) (by rw [← h2]; exact ho)⟩
      clear hw1 cI S1 HF HA
      go_wp2
      go_loopg [6] d.size (fun kx x wo => ∃ (s : Nat) (dk : Array Nat), x = .int .i64 (s : Int) ∧ 0 < s ∧ s ≤ 2000000 ∧ d.size - s ≤ kx ∧ Aside (SWK enc k w0 blk off dk wo) ∧ Aside (AllBlk (ltOf cf) d d.size s dk))
      case atStart =>
        obtain ⟨d', S2, ho⟩ := HW.out
        exact ⟨20, d', rfl, by omega, by omega, by omega, S2, ho⟩
      case round =>
        clear HW
        obtain ⟨s, dk1, rfl, hs0, hsb, hkx2, S2, HB⟩ := hrel
        have HDS : Aside (dk1.size = d.size) := HB.out.1.1
        obtain ⟨wo, hwo⟩ : ∃ wo, wo = wr := ⟨_, rfl⟩
        subst hwo
        by_cases hlt2 : s < d.size
        · have hlt2I : (s : Int) < (d.size : Int) := by omega
          obtain ⟨T, hT⟩ : ∃ T : Nat, T = 2 * s := ⟨_, rfl⟩
          have hT1 : (2 : Int) * (s : Int) = (T : Int) := by omega
          have hT2 : (s : Int) * 2 = (T : Int) := by omega
          have rT : IntKind.i64.wrap (T : Int) = (T : Int) := by rw [IntKind.wrap_i64]; omega
          have HT : Aside (T = 2 * s) := hT
          have hTb : T ≤ 2000000 := by omega
          have hTs : s < T := by omega
          clear hT
          go_wp2
          go_loopg [7, 8] d.size (fun kx x y wi => ∃ (A u : Nat) (dk : Array Nat), x = .int .i64 (A : Int) ∧ y = .int .i64 ((A : Int) + (T : Int)) ∧ A ≤ d.size ∧ d.size - A ≤ kx ∧ dk.size = d.size ∧ Aside (A = u * (2 * s)) ∧ Aside (SWK enc k w0 blk off dk wi) ∧ Aside (HalfBlk (ltOf cf) d d.size s u dk))
          case atStart => exact ⟨0, 0, dk1, rfl, by simp, Nat.zero_le _, Nat.le_refl _, HDS.out, (by show 0 = _; simp), S2, halfBlk_start HB.out⟩
          case round =>
            clear S2 HB
            obtain ⟨A, u, dk, rfl, rfl, hA, hkx3, hds, HA, S1, HF⟩ := hrel
            by_cases hlt3 : A + T ≤ d.size
            · have hlt3I : (A : Int) + (T : Int) ≤ (d.size : Int) := by omega
              have hin : MIn (ltOf cf) A (A + s) (A + T) dk := by
                have h1 := HA.out
                have h2 := HT.out
                rw [h2, h1]
                exact halfBlk_in HF.out hs0 (by omega) (by omega)
              have cM := CM.out A (A + s) (A + T) dk wr hds S1.out hin (by omega) (by omega)
              rw [show ((A + s : Nat) : Int) = (A : Int) + (s : Int) by omega, show ((A + T : Nat) : Int) = (A : Int) + (T : Int) by omega] at cM
              clear hin
              go_wp2_with fail
              go_at_fn 38
              refine cM.mono ?_
              rintro x w1 ⟨rfl, hw1⟩
              have HW : Aside (MRet enc k w0 blk off (ltOf cf) A (A + T) dk w1) := hw1
              clear hw1 cM
              go_wp2
              go_roundg (d.size - (A + T))
              case measure => omega
              case rel =>
                obtain ⟨d', S3, ho⟩ := HW.out
                have h1 := HA.out
                have h2 := HT.out
                refine ⟨A + T, u + 1, d', by simp, by first | rfl | (congr 1; omega), hlt3, Nat.le_refl _, by rw [ho.1.1]; exact hds, ?_, S3, ?_⟩
                · show A + T = _
                  rw [mul_next, ← h1, h2]
                · exact halfBlk_step HF.out hs0 (by omega) (by omega) (by rw [← h1, ← h2]; exact ho)
            · have hlt3I : ¬ (A : Int) + (T : Int) ≤ (d.size : Int) := by omega
              by_cases hm : A + s < d.size
              · have hmI : (A : Int) + (s : Int) < (d.size : Int) := by omega
                have hin : MIn (ltOf cf) A (A + s) d.size dk := by
                  have h1 := HA.out
                  have h2 := HT.out
                  rw [h1]
                  exact halfBlk_in2 HF.out (by omega) (by omega) (by omega)
                have cM := CM.out A (A + s) d.size dk wr hds S1.out hin (by omega) (by omega)
                rw [show ((A + s : Nat) : Int) = (A : Int) + (s : Int) by omega] at cM
                clear hin
                go_wp2_with fail
                go_at_fn 38
                refine cM.mono ?_
                rintro x w1 ⟨rfl, hw1⟩
                have HW : Aside (MRet enc k w0 blk off (ltOf cf) A d.size dk w1) := hw1
                clear hw1 cM
                go_wp2
                go_roundg (d.size - T)
                case measure => omega
                case rel =>
                  obtain ⟨d', S3, ho⟩ := HW.out
                  have h1 := HA.out
                  have h2 := HT.out
                  refine ⟨T, d', rfl, by omega, hTb, Nat.le_refl _, S3, ?_⟩
                  show AllBlk (ltOf cf) d d.size T d'
                  rw [h2]
                  exact halfBlk_all HF.out (by omega) (by omega) (by omega) (by rw [if_pos (by omega), ← h1]; exact ho)
              · have hmI : ¬ (A : Int) + (s : Int) < (d.size : Int) := by omega
                go_wp2
                go_roundg (d.size - T)
                case measure => omega
                case rel =>
                  have h1 := HA.out
                  have h2 := HT.out
                  refine ⟨T, dk, rfl, by omega, hTb, Nat.le_refl _, S1, ?_⟩
                  show AllBlk (ltOf cf) d d.size T dk
                  rw [h2]
                  exact halfBlk_all HF.out (by omega) (by omega) (by omega) (by rw [if_neg (by omega)])
        · have hlt2I : ¬ (s : Int) < (d.size : Int) := by omega
          go_wp2
          go_end0
          exact ⟨rfl, dk1, S2.out, allBlk_done HB.out (by omega)⟩
set_option maxHeartbeats 1000000 in
theorem sortStable_any (L : StLays P k) (enc : Nat → List Value) (cf : Nat → Nat → Int) (g : Nat) (cb : Array Value) (blk off cap : Nat) (d : Array Nat) (w : World)
    (eg : ∀ args w, (callFunc g args).run P w = .ok (.enter g args) w) (hcmp : CmpLays P g cb enc k cf blk off d.size w) (hO : SWO (ltOf cf)) (R : RowK enc k w blk off d)
    (hid : ∀ p, p < d.size → d[p]! = p) (hsz : d.size < 1000000) :
    Calls P 20 #[.slice (some ⟨blk, off, none⟩) d.size cap, .func (.func g) #[] cb] w fun e w' => e = .returned (.tuple #[]) ∧ MRet enc k w blk off (ltOf cf) 0 d.size d w' := by
  have mixed := L.mixed; have t0 := L.t0; have a0 := L.a0; have z0 := L.z0; have v0 := L.v0; have t3 := L.t3; have a3 := L.a3; have z3 := L.z3; have v3 := L.v3; have t23 := L.t23; have a23 := L.a23; have z23 := L.z23; have v23 := L.v23; have t57 := L.t57; have a57 := L.a57; have z57 := L.z57; have v57 := L.v57
  have e30 : ∀ args w, (callFunc 30 args).run P w = .ok (.enter 30 args) w := enters_of L.f30 (by kernel_rfl) rfl
  have hc := stable_any L enc cf g cb blk off cap d d w w eg hcmp hO R rfl (SWK.start R.hH) hid hsz
  clear hcmp hO R hid
  go_enter L.f20, Try.ntmps20
  go_wp2_with fail
  go_at_fn 30
  refine hc.mono ?_
  rintro x w1 ⟨rfl, hw1⟩
  have HW : Aside (MRet enc k w blk off (ltOf cf) 0 d.size d w1) := hw1
  clear hw1 hc
  go_wp2
  go_end0
  exact ⟨rfl, HW.out⟩
theorem stLays : StLays Try.prog 3 where
  mixed := by kernel_rfl
  f43 := Try.func43
  f41 := Try.func41
  f38 := Try.func38
  f37 := Try.func37
  f30 := Try.func30
  f20 := Try.func20
  t0 := by kernel_rfl
  a0 := fun w => by kernel_rfl
  z0 := fun w => by kernel_rfl
  v0 := fun w => by kernel_rfl
  t3 := by kernel_rfl
  a3 := fun w => by kernel_rfl
  z3 := fun w => by kernel_rfl
  v3 := fun w => by kernel_rfl
  t4 := by kernel_rfl
  a4 := fun w => by kernel_rfl
  z4 := fun w => by kernel_rfl
  v4 := fun w => by kernel_rfl
  t84 := by kernel_rfl
  a84 := fun w => by kernel_rfl
  z84 := fun w => by kernel_rfl
  v84 := fun w => by kernel_rfl
  t23 := by kernel_rfl
  a23 := fun w => by kernel_rfl
  z23 := fun w => by kernel_rfl
  v23 := fun w => by kernel_rfl
  t57 := by kernel_rfl
  a57 := fun w => by kernel_rfl
  z57 := fun w => by kernel_rfl
  v57 := fun w => by kernel_rfl
  aE := fun w => by kernel_rfl
  zE := fun w => by kernel_rfl
end Go.Proofs.Ythjblamfkfclhaa
