/- slices.SortStableFunc's parts at structs: exchanges of parts, and rotations. -/
import Derived.Test.YthjblamfkfclhaaRows
import Derived.Test.YthjblamfkfclhaaStable
import Derived.Shelf.SlSortCmp.ReverseRangeK
import Derived.Lib.Hide
namespace Go.Proofs.Ythjblamfkfclhaa
open Go.Shelf Go.RowKit Go.Lib Go.Sort

/-- What is asked of the program: the sort's bodies, and their types; an element has k cells. -/
structure StLays (P : Program) (k : Nat) : Prop where
  mixed : P.follows .mixedOrders = true
  f43 : P.funcs[43]? = some Try.f43
  f41 : P.funcs[41]? = some Try.f41
  f38 : P.funcs[38]? = some Try.f38
  f37 : P.funcs[37]? = some Try.f37
  f30 : P.funcs[30]? = some Try.f30
  f20 : P.funcs[20]? = some Try.f20
  t0 : P.underlying 0 = some (TypeDesc.tuple #[])
  a0 : ∀ w, (isAgg 0).run P w = .ok false w
  z0 : ∀ w, (Go.sizeOf 0).run P w = .ok 1 w
  v0 : ∀ w, (zeroValue 0).run P w = .ok (Value.tuple #[]) w
  t3 : P.underlying 3 = some (TypeDesc.int IntKind.i64)
  a3 : ∀ w, (isAgg 3).run P w = .ok false w
  z3 : ∀ w, (Go.sizeOf 3).run P w = .ok 1 w
  v3 : ∀ w, (zeroValue 3).run P w = .ok (Value.int IntKind.i64 0) w
  t4 : P.underlying 4 = some (TypeDesc.bool)
  a4 : ∀ w, (isAgg 4).run P w = .ok false w
  z4 : ∀ w, (Go.sizeOf 4).run P w = .ok 1 w
  v4 : ∀ w, (zeroValue 4).run P w = .ok (Value.bool false) w
  t84 : P.underlying 84 = some (TypeDesc.int IntKind.u64)
  a84 : ∀ w, (isAgg 84).run P w = .ok false w
  z84 : ∀ w, (Go.sizeOf 84).run P w = .ok 1 w
  v84 : ∀ w, (zeroValue 84).run P w = .ok (Value.int IntKind.u64 0) w
  t23 : P.underlying 23 = some (TypeDesc.slice 33)
  a23 : ∀ w, (isAgg 23).run P w = .ok false w
  z23 : ∀ w, (Go.sizeOf 23).run P w = .ok 1 w
  v23 : ∀ w, (zeroValue 23).run P w = .ok (Value.slice none 0 0) w
  t57 : P.underlying 57 = some (TypeDesc.func #[33, 33] #[3] false)
  a57 : ∀ w, (isAgg 57).run P w = .ok false w
  z57 : ∀ w, (Go.sizeOf 57).run P w = .ok 1 w
  v57 : ∀ w, (zeroValue 57).run P w = .ok (Value.nilFunc) w
  aE : ∀ w, (isAgg 33).run P w = .ok true w
  zE : ∀ w, (Go.sizeOf 33).run P w = .ok k w
variable {P : Program} {k : Nat}

/-- Behind an exchange of two parts. -/
def SwapRet (enc : Nat → List Value) (k : Nat) (w0 : World) (blk off a b n : Nat) (d : Array Nat) (w' : World) : Prop :=
  ∃ d', SWK enc k w0 blk off d' w' ∧ PermIn a (b + n) d d' ∧ ∀ p, d'[p]! = exchAt a b n d p
set_option maxHeartbeats 4000000 in
set_option maxRecDepth 1000000 in
theorem swapRange_any (L : StLays P k) (enc : Nat → List Value) (g : Nat) (cb : Array Value) (blk off cap a b n : Nat) (d0 d : Array Nat) (w0 w : World)
    (R : RowK enc k w0 blk off d0) (hs : d0.size = d.size) (S : SWK enc k w0 blk off d w) (hab : a + n ≤ b) (hb : b + n ≤ d.size) (hsz : d.size < 4611686018427387904) :
    Calls P 43 #[.slice (some ⟨blk, off, none⟩) d.size cap, .int .i64 a, .int .i64 b, .int .i64 n, .func (.func g) #[] cb] w fun e w' => e = .returned (.tuple #[]) ∧ SwapRet enc k w0 blk off a b n d w' := by
  have mixed := L.mixed; have t0 := L.t0; have a0 := L.a0; have z0 := L.z0; have v0 := L.v0; have t3 := L.t3; have a3 := L.a3; have z3 := L.z3; have v3 := L.v3; have t4 := L.t4; have a4 := L.a4; have z4 := L.z4; have v4 := L.v4; have t23 := L.t23; have a23 := L.a23; have z23 := L.z23; have v23 := L.v23; have t57 := L.t57; have a57 := L.a57; have z57 := L.z57; have v57 := L.v57; have aE := L.aE; have zE := L.zE
  have S0 : Aside (SWK enc k w0 blk off d w) := S
  clear S
  go_enter L.f43, Try.ntmps43
  go_wp2
  go_loopg [10] n (fun kx s wr => ∃ (i : Nat) (dk : Array Nat), s = .int .i64 i ∧ i ≤ n ∧ n - i ≤ kx ∧ dk.size = d.size ∧ Aside (SWK enc k w0 blk off dk wr) ∧ Aside (PermIn a (b + n) d dk ∧ ∀ p, dk[p]! = exchAt a b i d p))
  case atStart => exact ⟨0, d, rfl, by omega, by omega, rfl, S0, ⟨permIn_refl _ _ _, fun p => (exchAt_none a b d p).symm⟩⟩
  case round =>
    clear S0
    obtain ⟨i, dk, rfl, hin, hkx, hds, S1, hq⟩ := hrel
    by_cases hlt : i < n
    · have hltI : (i : Int) < (n : Int) := by omega
      go_wp2_with fail
      have ea : ((a : Int) + (i : Int)).toNat = a + i := by omega
      have pa : (0 : Int) ≤ (a : Int) + (i : Int) := by omega
      have ba : (a : Int) + (i : Int) < (d.size : Int) := by omega
      have ra : IntKind.i64.wrap ((a : Int) + (i : Int)) = (a : Int) + (i : Int) := by rw [IntKind.wrap_i64]; omega
      have eb : ((b : Int) + (i : Int)).toNat = b + i := by omega
      have pb : (0 : Int) ≤ (b : Int) + (i : Int) := by omega
      have bb : (b : Int) + (i : Int) < (d.size : Int) := by omega
      have rb : IntKind.i64.wrap ((b : Int) + (i : Int)) = (b : Int) + (i : Int) := by rw [IntKind.wrap_i64]; omega
      have S2 : Aside (SWK enc k w0 blk off (swp dk (a + i) (b + i)) ((wr.drew.setCells blk (off + (a + i) * k) (enc dk[b + i]!)).setCells blk (off + (b + i) * k) (enc dk[a + i]!))) := S1.out.swapped R (a + i) (b + i) (by omega) (by omega)
      have l1 := S1.out.ld1 R (by omega) P (a + i) (by omega)
      have l2 := S1.out.ld1 R (by omega) P (b + i) (by omega)
      have s1 := S1.out.st1 R (by omega) P (a + i) (by omega) dk[b + i]!
      have s2 := S1.out.st2 R (by omega) P (a + i) (b + i) (by omega) (by omega) dk[b + i]! dk[a + i]!
      have n1 : (enc dk[a + i]!).length = k := R.hk _
      have n2 : (enc dk[b + i]!).length = k := R.hk _
      generalize enc dk[a + i]! = cI at S2 l1 s2 n1
      generalize enc dk[b + i]! = cJ at S2 l2 s1 s2 n2
      clear S1
      go_wp2_with fail
      go_big_region_o
      clear l1 l2 s1 s2
      generalize (wr.drew.setCells blk (off + (a + i) * k) cJ).setCells blk (off + (b + i) * k) cI = w2 at S2 ⊢
      go_wp2
      go_roundg (n - (i + 1))
      case measure => omega
      case rel => exact ⟨i + 1, swp dk (a + i) (b + i), by simp, by omega, Nat.le_refl _, by rw [size_swp]; exact hds, S2, ⟨permIn_trans _ _ _ _ _ hq.out.1 (swp_permIn dk a (b + n) (a + i) (b + i) (by omega) (by omega) (by omega) (by omega) (by omega)), fun p => exchAt_step hab hlt (by omega) hq.out.2 p⟩⟩
    · have hltI : ¬ (i : Int) < (n : Int) := by omega
      have e : i = n := by omega
      subst e
      go_wp2
      go_end0
      exact ⟨rfl, dk, S1.out, hq.out⟩
/-- Behind a rotation. -/
def RotRet (enc : Nat → List Value) (k : Nat) (w0 : World) (blk off a m b : Nat) (d : Array Nat) (w' : World) : Prop :=
  ∃ d', SWK enc k w0 blk off d' w' ∧ PermIn a b d d' ∧ ∀ p, d'[p]! = rotAt a m b d p
set_option maxHeartbeats 4000000 in
set_option maxRecDepth 1000000 in
theorem rotate_any (L : StLays P k) (enc : Nat → List Value) (g : Nat) (cb : Array Value) (blk off cap a m b : Nat) (d0 d : Array Nat) (w0 w : World)
    (R : RowK enc k w0 blk off d0) (hs : d0.size = d.size) (S : SWK enc k w0 blk off d w) (ham : a < m) (hmb : m < b) (hb : b ≤ d.size) (hsz : d.size < 4611686018427387904) :
    Calls P 41 #[.slice (some ⟨blk, off, none⟩) d.size cap, .int .i64 a, .int .i64 m, .int .i64 b, .func (.func g) #[] cb] w fun e w' => e = .returned (.tuple #[]) ∧ RotRet enc k w0 blk off a m b d w' := by
  have mixed := L.mixed; have t0 := L.t0; have a0 := L.a0; have z0 := L.z0; have v0 := L.v0; have t3 := L.t3; have a3 := L.a3; have z3 := L.z3; have v3 := L.v3; have t4 := L.t4; have a4 := L.a4; have z4 := L.z4; have v4 := L.v4; have t23 := L.t23; have a23 := L.a23; have z23 := L.z23; have v23 := L.v23; have t57 := L.t57; have a57 := L.a57; have z57 := L.z57; have v57 := L.v57
  have e43 : ∀ args w, (callFunc 43 args).run P w = .ok (.enter 43 args) w := enters_of L.f43 (by kernel_rfl) rfl
  have S0 : Aside (SWK enc k w0 blk off d w) := S
  clear S
  go_enter L.f41, Try.ntmps41
  go_wp2
  go_loopg [10, 11] (b - a) (fun kx s t wr => ∃ (i j : Nat) (dk : Array Nat), s = .int .i64 (i : Int) ∧ t = .int .i64 (j : Int) ∧ 0 < i ∧ 0 < j ∧ i + a ≤ m ∧ m + j ≤ b ∧ i + j ≤ kx ∧ dk.size = d.size ∧ Aside (SWK enc k w0 blk off dk wr) ∧ Aside (PermIn a b d dk ∧ ∀ p, rotAt (m - i) m (m + j) dk p = rotAt a m b d p))
  case atStart =>
    refine ⟨m - a, b - m, d, by congr 1; omega, by congr 1; omega, by omega, by omega, by omega, by omega, by omega, rfl, S0, ⟨permIn_refl _ _ _, fun p => ?_⟩⟩
    rw [show m - (m - a) = a by omega, show m + (b - m) = b by omega]
  case round =>
    clear S0
    obtain ⟨i, j, dk, rfl, rfl, hi, hj, him, hjb, hkx, hds, S1, hq⟩ := hrel
    by_cases hlt : i = j
    · subst hlt
      have hc := swapRange_any L enc g cb blk off cap (m - i) m i d0 dk w0 wr R (by omega) S1.out (by omega) (by omega) (by omega)
      rw [hds, show ((m - i : Nat) : Int) = (m : Int) - (i : Int) by omega] at hc
      go_wp2_with (go_at_fn 43; refine hc.mono ?_; rintro e w1 ⟨rfl, hw1⟩)
      go_end0
      obtain ⟨d', S2, hp, hr⟩ := hw1
      refine ⟨rfl, d', S2, permIn_trans _ _ _ _ _ hq.out.1 (permIn_mono dk d' (m - i) (m + i) a b (by omega) (by omega) (by omega) hp), fun p => ?_⟩
      rw [hr, rot_end (by omega), hq.out.2]
    · have hne : ¬ (i : Int) = (j : Int) := by omega
      by_cases hij : j < i
      · have hijI : (j : Int) < (i : Int) := by omega
        have hc := swapRange_any L enc g cb blk off cap (m - i) m j d0 dk w0 wr R (by omega) S1.out (by omega) (by omega) (by omega)
        rw [hds, show ((m - i : Nat) : Int) = (m : Int) - (i : Int) by omega] at hc
        go_wp2_with (go_at_fn 43; refine hc.mono ?_; rintro e w1 ⟨rfl, hw1⟩; have HW := Lib.hid hw1; clear hw1)
        go_roundg (i - j + j)
        case measure => omega
        case rel =>
          obtain ⟨d', S2, hp, hr⟩ := HW.out
          refine ⟨i - j, j, d', by congr 1; omega, rfl, by omega, hj, by omega, hjb, Nat.le_refl _, by rw [hp.1]; exact hds, S2, ⟨permIn_trans _ _ _ _ _ hq.out.1 (permIn_mono dk d' (m - i) (m + j) a b (by omega) (by omega) (by omega) hp), fun p => ?_⟩⟩
          rw [rot_left hj hij (by omega) hr, hq.out.2]
      · have hijI : ¬ (j : Int) < (i : Int) := by omega
        have hc := swapRange_any L enc g cb blk off cap (m - i) (m + j - i) i d0 dk w0 wr R (by omega) S1.out (by omega) (by omega) (by omega)
        rw [hds, show ((m - i : Nat) : Int) = (m : Int) - (i : Int) by omega, show ((m + j - i : Nat) : Int) = (m : Int) + (j : Int) - (i : Int) by omega] at hc
        go_wp2_with (go_at_fn 43; refine hc.mono ?_; rintro e w1 ⟨rfl, hw1⟩; have HW := Lib.hid hw1; clear hw1)
        go_roundg (i + (j - i))
        case measure => omega
        case rel =>
          obtain ⟨d', S2, hp, hr⟩ := HW.out
          refine ⟨i, j - i, d', rfl, by congr 1; omega, hi, by omega, him, by omega, Nat.le_refl _, by rw [hp.1]; exact hds, S2, ⟨permIn_trans _ _ _ _ _ hq.out.1 (permIn_mono dk d' (m - i) (m + j - i + i) a b (by omega) (by omega) (by omega) hp), fun p => ?_⟩⟩
          rw [rot_right hi (by omega) (by omega) hr, hq.out.2]
end Go.Proofs.Ythjblamfkfclhaa
