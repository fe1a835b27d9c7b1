/- What rises, and what sinks, in memory. -/
import Derived.Test.YtbnekkcjkdghcaaEHeapO
namespace Go.Proofs.Ytbnekkcjkdghcaa
open Go.RowKit Go.Shelf
open Go.Sort (grow grow_empty grow_grow alloc_eq_grow heap_grow_old)
variable {w w' : World} {B K : Nat} {fv v : Value} {A : List Ent} {pu pk : Int} {bt : Ent → Ent → Bool} {E : World → Prop} {Bk : Nat → Prop}

set_option maxRecDepth 100000 in
theorem aheadB_true {i j : Nat} (h : aheadB bt A i j = true) : ∃ (hi : i < A.length) (hj : j < A.length), bt A[i] A[j] = true := by
  unfold aheadB at h
  split at h
  · rename_i h2; exact ⟨h2.1, h2.2, h⟩
  · cases h
set_option maxRecDepth 100000 in
theorem aheadB_false {i j : Nat} (h : aheadB bt A i j = false) (hi : i < A.length) (hj : j < A.length) : bt A[i] A[j] = false := by rwa [aheadB_yes hi hj] at h
/-- The one below place p that the other one isn't better than. -/
def Pick (bt : Ent → Ent → Bool) (A : List Ent) (p c : Nat) : Prop := (aheadB bt A (2 * p + 2) (2 * p + 1) = true ∧ c = 2 * p + 2) ∨ (aheadB bt A (2 * p + 2) (2 * p + 1) = false ∧ c = 2 * p + 1)
set_option maxRecDepth 100000 in
theorem pick_stop (R : Ranks bt) {p c : Nat} (h : Pick bt A p c) (hn : aheadB bt A c p = false) : ∀ i (hi : i < A.length) (hq : p < A.length), Kid p i → bt A[i] A[p] = false := by
  intro i hi hq hk
  rcases h with ⟨h1, rfl⟩ | ⟨h1, rfl⟩
  · obtain ⟨h2, h3, h4⟩ := aheadB_true h1
    have h5 := aheadB_false hn h2 hq
    rcases hk with rfl | rfl
    · exact R.ntr _ _ _ (R.asym _ _ h4) h5
    · exact h5
  · rcases hk with rfl | rfl
    · exact aheadB_false hn hi hq
    · exact R.ntr _ _ _ (aheadB_false h1 hi (by omega)) (aheadB_false hn (by omega) hq)
set_option maxRecDepth 100000 in
theorem pick_go (R : Ranks bt) {k p c : Nat} (h : Pick bt A p c) (hy : aheadB bt A c p = true) (hS : Sk bt A k p) (hk : k ≤ p) : ∃ (hc : c < A.length) (hp : p < A.length), Sk bt (exch A c p hc hp) k c := by
  obtain ⟨hc, hp, hb⟩ := aheadB_true hy
  refine ⟨hc, hp, sk_step R hS hp hc ?_ hk ?_ hb⟩
  · rcases h with ⟨_, rfl⟩ | ⟨_, rfl⟩
    · exact .inr rfl
    · exact .inl rfl
  · intro s hs hks
    rcases h with ⟨h1, rfl⟩ | ⟨h1, rfl⟩
    · obtain ⟨h2, h3, h4⟩ := aheadB_true h1
      rcases hks with rfl | rfl
      · exact R.asym _ _ h4
      · exact R.irr _
    · rcases hks with rfl | rfl
      · exact R.irr _
      · exact aheadB_false h1 hs hc
/-- Behind what has risen or sunk. -/
def SinkRet (w : World) (B K : Nat) (fv v : Value) (A : List Ent) (pu pk : Int) (bt : Ent → Ent → Bool) (k : Nat) (e : Ending) (w' : World) : Prop :=
  e = .returned (.tuple #[]) ∧ ∃ A', A'.Perm A ∧ HeapFrom bt A' k ∧ Hp w' B K fv v A' pu pk ∧ Kept (fun k => v.ownBlock = some k) w w'
def SinkRel (w : World) (B K : Nat) (fv v : Value) (A : List Ent) (pu pk : Int) (bt : Ent → Ent → Bool) (k : Nat) (i : Value) (wr : World) : Prop :=
  ∃ (p : Nat) (A1 : List Ent), i = .int .i64 (p : Int) ∧ k ≤ p ∧ p ≤ 100000 ∧ A1.Perm A ∧ Sk bt A1 k p ∧ Hp wr B K fv v A1 pu pk ∧ Kept (fun k => v.ownBlock = some k) w wr
def RiseRel (w : World) (B K : Nat) (fv v : Value) (A : List Ent) (pu pk : Int) (bt : Ent → Ent → Bool) (i : Value) (wr : World) : Prop :=
  ∃ (p : Nat) (A1 : List Ent), i = .int .i64 (p : Int) ∧ p < A1.length ∧ A1.Perm A ∧ Rk bt A1 p ∧ Hp wr B K fv v A1 pu pk ∧ Kept (fun k => v.ownBlock = some k) w wr
set_option maxRecDepth 100000 in
theorem Kept.grow {S : Nat → Prop} {a b c : World} (h : Kept S a b) (k : Grown b c) : Kept S a c := h.trans (Kept.of_below (S := S) k.below (Nat.le_refl _)) fun _ _ h => h
set_option maxRecDepth 100000 in
set_option maxHeartbeats 2000000 in
theorem rise_any {g : Nat} {lb : Array Value} (b : Bet g lb bt E Bk) (p : Nat) (h : Hp w B K (fnV g lb) v A pu pk) (hE : E w) (hap : ∀ k, mine K v k → ¬ Bk k) (hR : Rk bt A p) (hp : p < A.length) :
    Calls Try.prog 41 #[.pointer (some ⟨K, 0, none⟩), .int .i64 (p : Int)] w (SinkRet w B K (fnV g lb) v A pu pk bt 0) := by
  have HB := Lib.hid b
  have HE := Lib.hid hE
  have HAP : Hid (∀ k, v.ownBlock = some k → ¬ Bk k) := Lib.hid fun k hk => hap k (.inr hk.symm)
  have HS : Hid (RiseRel w B K (fnV g lb) v A pu pk bt (.int .i64 (p : Int)) w) := Lib.hid ⟨p, A, rfl, hp, List.Perm.refl _, hR, h, Kept.refl _ _⟩
  have hl : p ≤ 1000000 := by have := h.few; omega
  clear h hR hp b hE hap
  go_enter Try.func41, Try.ntmps41
  go_wp2
  go_loopw [1] (fun i wr => RiseRel w B K (fnV g lb) v A pu pk bt i wr) (fun i _ => (intOf i).toNat)
  case atStart => exact HS.out
  case round =>
    clear HS hl
    obtain ⟨p, A1, rfl, hp, hpm, hR, hh, hk⟩ := hrel
    have HP := Lib.hid hpm; have HR := Lib.hid hR; have HH := Lib.hid hh; have HK := Lib.hid hk; have HPL := Lib.hid hp
    have hl : p < 1000000 := by have := hh.few; omega
    clear hpm hR hh hk hp
    by_cases h0 : p = 0
    · subst h0
      have h00 : ¬ (0 : Int) < ((0 : Nat) : Int) := by omega
      go_wp2
      go_end0
      exact ⟨rfl, A1, HP.out, rk_top HR.out, HH.out, HK.out⟩
    · obtain ⟨q, hq⟩ : ∃ q, q = (p - 1) / 2 := ⟨_, rfl⟩
      have HKD : Hid (Kid q p) := Lib.hid (by unfold Kid; omega)
      have hqp : q < p := by omega
      have g0 : (0 : Int) < (p : Int) := by omega
      have hw1 : IntKind.i64.wrap ((p : Int) - 1) = (p : Int) - 1 := IntWalk.i64_in _ (by omega)
      have hw2 : ((p : Int) - 1).tdiv 2 = (q : Int) := by rw [Int.tdiv_eq_ediv_of_nonneg (by omega)]; omega
      have hw3 : IntKind.i64.wrap (q : Int) = (q : Int) := IntWalk.i64_in _ (by omega)
      have cA := ahead_any HB.out p q HH.out (HB.out.kept HE.out HK.out HAP.out) hqp (by omega)
      clear hq
      go_wp2_with fail
      refine cA.mono ?_
      rintro e w1 ⟨rfl, hg⟩
      have HG := Lib.hid hg
      clear hg cA
      have HH1 := Lib.hid (HH.out.grown HG.out)
      have hpl := HPL.out
      cases hz : aheadB bt A1 p q with
      | false =>
        have HZ := Lib.hid hz
        clear hz
        go_wp2
        go_end0
        exact ⟨rfl, A1, HP.out, rk_stop HR.out hpl (by omega) HKD.out (aheadB_false HZ.out hpl (by omega)), HH1.out, HK.out.grow HG.out⟩
      | true =>
        have HZ := Lib.hid hz
        clear hz
        have cS := swap_any p q HH1.out hpl (by omega) (by omega)
        go_wp2_with fail
        refine cS.mono ?_
        rintro e w2 ⟨rfl, h2, hk2⟩
        have HH2 := Lib.hid h2; have HK2 := Lib.hid hk2
        clear h2 hk2 cS
        go_wp2
        go_roundw
        case rel => exact ⟨q, _, rfl, by rw [exch_len]; have := HPL.out; omega, (exch_perm _ _ _).trans HP.out, rk_step HB.out.ranks HR.out _ _ HKD.out (by obtain ⟨_, _, h⟩ := aheadB_true HZ.out; exact h), HH2.out, (HK.out.grow HG.out).trans HK2.out fun _ _ h => h⟩
        case measure => simp [intOf]; omega
set_option maxRecDepth 100000 in
set_option maxHeartbeats 4000000 in
theorem sink_any {g : Nat} {lb : Array Value} (b : Bet g lb bt E Bk) (k : Nat) (h : Hp w B K (fnV g lb) v A pu pk) (hE : E w) (hap : ∀ k, mine K v k → ¬ Bk k) (hS : Sk bt A k k) (hk : k ≤ 100000) :
    Calls Try.prog 53 #[.pointer (some ⟨K, 0, none⟩), .int .i64 (k : Int)] w (SinkRet w B K (fnV g lb) v A pu pk bt k) := by
  have HB := Lib.hid b
  have HE := Lib.hid hE
  have HAP : Hid (∀ k, v.ownBlock = some k → ¬ Bk k) := Lib.hid fun k hk => hap k (.inr hk.symm)
  have HS : Hid (SinkRel w B K (fnV g lb) v A pu pk bt k (.int .i64 (k : Int)) w) := Lib.hid ⟨k, A, rfl, Nat.le_refl _, hk, List.Perm.refl _, hS, h, Kept.refl _ _⟩
  have HF := Lib.hid h.few
  clear h hS hk b hE hap
  go_enter Try.func53, Try.ntmps53
  go_wp2
  go_loopw [1] (fun i wr => SinkRel w B K (fnV g lb) v A pu pk bt k i wr) (fun i _ => A.length - (intOf i).toNat)
  case atStart => exact HS.out
  case round =>
    clear HS
    obtain ⟨p, A1, rfl, hkp, hp, hpm, hS, hh, hk⟩ := hrel
    have HP := Lib.hid hpm; have HS := Lib.hid hS; have HH := Lib.hid hh; have HK := Lib.hid hk; have HKP := Lib.hid hkp
    clear hpm hS hh hk hkp
    obtain ⟨c, hc⟩ : ∃ c, c = 2 * p + 1 := ⟨_, rfl⟩
    have hw1 : IntKind.i64.wrap (2 * (p : Int)) = 2 * (p : Int) := IntWalk.i64_in _ (by omega)
    have hw2 : 2 * (p : Int) + 1 = (c : Int) := by omega
    have hw3 : IntKind.i64.wrap (c : Int) = (c : Int) := IntWalk.i64_in _ (by omega)
    have hcm : c ≤ 200001 := by omega
    have HC := Lib.hid hc
    obtain ⟨d, hd⟩ : ∃ d, d = c + 1 := ⟨_, rfl⟩
    have hw4 : (c : Int) + 1 = (d : Int) := by omega
    have hw5 : IntKind.i64.wrap (d : Int) = (d : Int) := IntWalk.i64_in _ (by omega)
    have cA := ahead_any HB.out d c HH.out (HB.out.kept HE.out HK.out HAP.out) (by omega) (by omega)
    have HD := Lib.hid hd
    clear hc hd
    go_wp2_with fail
    refine cA.mono ?_
    rintro e w1 ⟨rfl, hg⟩
    have HG := Lib.hid hg
    clear hg cA
    have HH1 := Lib.hid (HH.out.grown HG.out)
    have more : ∀ c', c' ≤ 300000 → p < c' → Pick bt A1 p c' → (Calls Try.prog 50 #[.pointer (some ⟨K, 0, none⟩), .int .i64 (c' : Int), .int .i64 (p : Int)] w1 fun e w' => e = .returned (.bool (aheadB bt A1 c' p)) ∧ Grown w1 w') := fun c' h1 h2 _ => ahead_any HB.out c' p HH1.out (HB.out.grown (HB.out.kept HE.out HK.out HAP.out) HG.out) h2 (by omega)
    cases hz : aheadB bt A1 d c with
    | false =>
      have HPK : Hid (Pick bt A1 p c) := Lib.hid (.inr ⟨by rw [← hz, HD.out, HC.out], HC.out⟩)
      have cB := more c (by omega) (by have := HC.out; omega) HPK.out
      clear hz more
      go_wp2_with fail
      refine cB.mono ?_
      rintro e w2 ⟨rfl, hg⟩
      have HG2 := Lib.hid hg
      clear hg cB
      have HH2 := Lib.hid (HH1.out.grown HG2.out)
      cases hz : aheadB bt A1 c p with
      | false =>
        have HZ := Lib.hid hz
        clear hz
        go_wp2
        refine bodyPost_ret (results_none rfl _ _ _) rfl ?_
        exact ⟨rfl, A1, HP.out, sk_stop HS.out (pick_stop HB.out.ranks HPK.out HZ.out), HH2.out, (HK.out.grow HG.out).grow HG2.out⟩
      | true =>
        obtain ⟨hcl, hpl, hS2⟩ := pick_go HB.out.ranks HPK.out hz HS.out HKP.out
        have HS2 := Lib.hid hS2
        have cS := swap_any c p HH2.out hcl hpl (by have := HC.out; omega)
        have HL : Hid (c < A.length) := Lib.hid (by rw [← HP.out.length_eq]; exact hcl)
        have HCB : Hid (c ≤ 100000) := Lib.hid (by have := HF.out; have := HL.out; omega)
        clear hz hS2
        go_wp2_with fail
        refine cS.mono ?_
        rintro e w3 ⟨rfl, h2, hk2⟩
        have HH3 := Lib.hid h2; have HK3 := Lib.hid hk2
        clear h2 hk2 cS
        go_wp2
        go_roundw
        case rel => exact ⟨c, _, rfl, by have := HC.out; have := HKP.out; omega, HCB.out, (exch_perm _ _ _).trans HP.out, HS2.out, HH3.out, ((HK.out.grow HG.out).grow HG2.out).trans HK3.out fun _ _ h => h⟩
        case measure => have := HL.out; have := HC.out; simp [intOf]; omega
    | true =>
      have HPK : Hid (Pick bt A1 p d) := Lib.hid (.inl ⟨by rw [← hz, HD.out, HC.out], by rw [HD.out, HC.out]⟩)
      have cB := more d (by omega) (by have := HC.out; omega) HPK.out
      clear hz more
      go_wp2_with fail
      refine cB.mono ?_
      rintro e w2 ⟨rfl, hg⟩
      have HG2 := Lib.hid hg
      clear hg cB
      have HH2 := Lib.hid (HH1.out.grown HG2.out)
      cases hz : aheadB bt A1 d p with
      | false =>
        have HZ := Lib.hid hz
        clear hz
        go_wp2
        refine bodyPost_ret (results_none rfl _ _ _) rfl ?_
        exact ⟨rfl, A1, HP.out, sk_stop HS.out (pick_stop HB.out.ranks HPK.out HZ.out), HH2.out, (HK.out.grow HG.out).grow HG2.out⟩
      | true =>
        obtain ⟨hcl, hpl, hS2⟩ := pick_go HB.out.ranks HPK.out hz HS.out HKP.out
        have HS2 := Lib.hid hS2
        have cS := swap_any d p HH2.out hcl hpl (by have := HC.out; have := HD.out; omega)
        have HL : Hid (d < A.length) := Lib.hid (by rw [← HP.out.length_eq]; exact hcl)
        have HCB : Hid (d ≤ 100000) := Lib.hid (by have := HF.out; have := HL.out; omega)
        clear hz hS2
        go_wp2_with fail
        refine cS.mono ?_
        rintro e w3 ⟨rfl, h2, hk2⟩
        have HH3 := Lib.hid h2; have HK3 := Lib.hid hk2
        clear h2 hk2 cS
        go_wp2
        go_roundw
        case rel => exact ⟨d, _, rfl, by have := HC.out; have := HD.out; have := HKP.out; omega, HCB.out, (exch_perm _ _ _).trans HP.out, HS2.out, HH3.out, ((HK.out.grow HG.out).grow HG2.out).trans HK3.out fun _ _ h => h⟩
        case measure => have := HL.out; have := HC.out; have := HD.out; simp [intOf]; omega
end Go.Proofs.Ytbnekkcjkdghcaa
