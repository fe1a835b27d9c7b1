/- NaiveBest: the best merge, and any word behind it. -/
import Derived.Test.YtbacbgpemaldbaaNvN
import Derived.Deep.RegionHeld3
namespace Go.Proofs.Ytbacbgpemaldbaa
open Go.RowKit

def SmallW (W : List ByteArray) : Prop := W.length ≤ 40 ∧ ∀ t ∈ W, t.size ≤ 20
def CountsOk (n : Nat) (C : List Int) : Prop := ∀ i (h : i < C.length), i < n → C[i] ≤ 1000000
/-- What is asked of the program's Best and Join. -/
def NBests : Prop := ∀ (x y : Value) (WW : List (List ByteArray)) (C : List Int) (w : World), rowsT w x WW → eltsAt intE w y C → WW.length ≤ 20 → C.length ≤ 9223372036854775807 → (∀ c ∈ C, FitsB c) → (∀ W ∈ WW, SmallW W) → CountsOk WW.length C → nilNone y → (∀ a n c, y = .slice a n c → n ≤ c) →
  Calls Try.prog 12 #[x, y] w fun e w' => BtRet WW C w e w'
def NvJRet (m : Mg) (W : List ByteArray) (w : World) (e : Ending) (w' : World) : Prop := ∃ v, e = .returned v ∧ eltsAt textE w' v (joinT m W) ∧ Below w.heap.size w w'
def NJoins : Prop := ∀ (m : Mg) (x : Value) (W : List ByteArray) (w : World), eltsAt textE w x W → nilNone x → SmallW W → m.1.size ≤ 20 → m.2.size ≤ 20 →
  Calls Try.prog 15 #[x, .agg #[.string m.1, .string m.2]] w fun e w' => NvJRet m W w e w'
set_option maxRecDepth 100000 in
theorem rowsT.row2 {w : World} {a : Option Addr} {n cap : Nat} {WW : List (List ByteArray)} (h : rowsT w (.slice a n cap) WW) {i : Nat} (hi : i < WW.length) : ∃ ad ai ci, a = some ad ∧ nilNone (.slice ai WW[i].length ci) ∧ ∀ W, Below w.heap.size w W → W.cell? (ad.add i) = some (.slice ai WW[i].length ci) ∧ eltsAt textE W (.slice ai WW[i].length ci) WW[i] := by
  obtain ⟨ad, ai, ci, e, h1⟩ := h.row hi
  obtain ⟨ad2, ai2, ci2, e2, k1, _, k3⟩ := h.at (Below.refl _ w) hi
  rw [e] at e2
  cases e2
  have h2 := (h1 w (Below.refl _ w)).1
  rw [h2] at k1
  obtain ⟨rfl, _, rfl⟩ := Value.slice.inj (Option.some.inj k1)
  exact ⟨ad, ai, ci, e, k3, h1⟩
set_option maxRecDepth 100000 in
theorem cap_few : ∀ (WW : List (List ByteArray)) (C : List Int), (∀ W ∈ WW, W.length ≤ 40) → CountsOk WW.length C → capW WW C ≤ (WW.length : Int) * 39000000
  | [], _, _, _ => by simp [capW]
  | w :: R, [], _, _ => by
    show (0 : Int) ≤ _
    exact Int.mul_nonneg (by omega) (by omega)
  | w :: R, c :: C, h, hc => by
    have ih := cap_few R C (fun W hW => h W (List.mem_cons_of_mem _ hW)) (fun i h1 h2 => by
      have := hc (i + 1) (by simp only [List.length_cons]; omega) (by simp only [List.length_cons]; omega)
      simpa using this)
    have hw := h w List.mem_cons_self
    have h0 := hc 0 (by simp) (by simp)
    simp only [List.getElem_cons_zero] at h0
    rw [capW_cons]
    have e : ((w :: R).length : Int) = (R.length : Int) + 1 := by simp
    rw [e]
    split
    · have h1 : ((w.length - 1 : Nat) : Int) * c ≤ 39 * 1000000 := Int.mul_le_mul (by omega) h0 (by omega) (by omega)
      omega
    · omega
set_option maxRecDepth 100000 in
theorem all_few : ∀ (WW : List (List ByteArray)), (∀ W ∈ WW, W.length ≤ 40) → allT WW ≤ WW.length * 40
  | [], _ => by simp [allT]
  | w :: R, h => by
    have ih := all_few R fun W hW => h W (List.mem_cons_of_mem _ hW)
    have hw := h w List.mem_cons_self
    have e : allT (w :: R) = w.length + allT R := by simp [allT]
    rw [e, List.length_cons]
    omega
set_option maxRecDepth 100000 in
theorem best_small {WW : List (List ByteArray)} {C : List Int} {b : Mg} {n : Int} (h : BestRel WW C b n) (hs : ∀ W ∈ WW, SmallW W) : b.1.size ≤ 20 ∧ b.2.size ≤ 20 := by
  by_cases hn : 1 ≤ n
  · obtain ⟨W, hW, hc⟩ := h.some hn
    obtain ⟨P, Q, e⟩ := cnt_stands hc
    exact ⟨(hs W hW).2 _ (by rw [e]; simp), (hs W hW).2 _ (by rw [e]; simp)⟩
  · rcases h with ⟨_, h2, _⟩ | ⟨h1, _⟩
    · rw [h2]; exact ⟨by decide, by decide⟩
    · omega
/-! The same texts. -/
set_option maxRecDepth 100000 in
set_option maxHeartbeats 1000000 in
theorem ntexts_true (v x : Value) (L : List ByteArray) (w : World) (hv : eltsAt textE w v L) (hx : eltsAt textE w x L) (hL : L.length ≤ 1000000) :
    Calls Try.prog 14 #[v, x] w fun e w' => e = .returned (.bool true) ∧ Below w.heap.size w w' := by
  have HV := Lib.hid hv
  have HX := Lib.hid hx
  obtain ⟨a, cap, rfl, hc⟩ := hv
  obtain ⟨b, cap2, rfl, hd⟩ := hx
  have HC := Lib.hid hc
  have HD := Lib.hid hd
  clear hc hd
  go_enter Try.func14, Try.ntmps14
  go_wp2
  go_loopw [5] (fun i wr => NvToRel L.length w i wr) (fun i _ => L.length + 1 - (intOf i).toNat)
  case atStart => exact ⟨0, 0, rfl, by omega, rfl⟩
  case round =>
    obtain ⟨k, m, rfl, hk, hw⟩ := hrel
    have HW := Lib.hid hw
    have HB : Hid (Below w.heap.size w wr) := Lib.hid (by rw [hw]; exact below_drewN' (Below.refl _ _) _)
    clear hw
    by_cases hgo : k < L.length
    · have hkI : (k : Int) < (L.length : Int) := by omega
      obtain ⟨ad, rfl, _⟩ := HC.out k hgo
      obtain ⟨ae, rfl, _⟩ := HD.out k hgo
      have c0 := txt_cell HV.out HB.out hgo
      have d0 := txt_cell HX.out HB.out hgo
      go_wp2
      go_quiet (fail)
      go_wp2
      go_roundw
      case rel => exact ⟨k + 1, m + nq, by simp, hgo, by rw [HW.out]; simp⟩
      case measure => simp [intOf]; omega
    · have hkI : ¬ (k : Int) < (L.length : Int) := by omega
      go_wp2
      go_ret
      exact ⟨rfl, HB.out⟩
/-! What is looked at. -/
def OkTo (WW : List (List ByteArray)) (C : List Int) (k : Nat) : Prop := ∀ j (h : j < WW.length), j < k → SmallW WW[j] ∧ ∀ h' : j < C.length, C[j] ≤ 1000000
def BeRel1 (WW : List (List ByteArray)) (C : List Int) (w : World) (i : Value) (wr : World) : Prop := ∃ k : Nat, i = .int .i64 (k : Int) ∧ k ≤ WW.length ∧ OkTo WW C k ∧ wr = w
def BeRel2 (W : List ByteArray) (w : World) (i : Value) (wr : World) : Prop := ∃ k : Nat, i = .int .i64 (k : Int) ∧ k ≤ W.length ∧ (∀ j (h : j < W.length), j < k → W[j].size ≤ 20) ∧ wr = w
def BeRel3 (N : Nat) (w : World) (i : Value) (wr : World) : Prop := ∃ k : Nat, i = .int .i64 (k : Int) ∧ k ≤ N ∧ Below w.heap.size w wr
set_option maxRecDepth 100000 in
theorem OkTo.all {WW : List (List ByteArray)} {C : List Int} {k : Nat} (h : OkTo WW C k) (hk : WW.length ≤ k) : (∀ W ∈ WW, SmallW W) ∧ CountsOk WW.length C := by
  refine ⟨fun W hW => ?_, fun i h1 h2 => (h i h2 (by omega)).2 h1⟩
  obtain ⟨j, hj, rfl⟩ := List.getElem_of_mem hW
  exact (h j hj (by omega)).1
set_option maxRecDepth 100000 in
theorem OkTo.next {WW : List (List ByteArray)} {C : List Int} {k : Nat} (h : OkTo WW C k) (hk : k < WW.length) (h1 : WW[k].length ≤ 40) (h2 : ∀ j (h : j < WW[k].length), WW[k][j].size ≤ 20) (h3 : ∀ h' : k < C.length, C[k] ≤ 1000000) : OkTo WW C (k + 1) := fun j hj hjk => by
  by_cases e : j < k
  · exact h j hj e
  · obtain rfl : j = k := by omega
    refine ⟨⟨h1, fun t ht => ?_⟩, h3⟩
    obtain ⟨i, hi, rfl⟩ := List.getElem_of_mem ht
    exact h2 i hi
abbrev AtE (ad : Addr) (i M Mb Mc : Nat) (ai : Option Addr) (n ci : Nat) (m1 m2 bl br : ByteArray) (W : World) : Prop := W.cell? (ad.add i) = some (.slice ai n ci) ∧ (W.cell? ⟨M, 0, none⟩ = some (.string m1) ∧ W.cell? ⟨M, 1, none⟩ = some (.string m2)) ∧ (W.cell? ⟨Mb, 0, none⟩ = some (.string bl) ∧ W.cell? ⟨Mb, 1, none⟩ = some (.string br)) ∧ (W.cell? ⟨Mc, 0, none⟩ = some (.string bl) ∧ W.cell? ⟨Mc, 1, none⟩ = some (.string br))
set_option maxRecDepth 100000 in
set_option maxHeartbeats 16000000 in
theorem naiveBest_over (hP : NLearns) (hBs : NBests) (hJs : NJoins) (x y : Value) (m1 m2 : ByteArray) (w : World) (WW : List (List ByteArray)) (C : List Int) (hx : rowsT w x WW) (hy : eltsAt intE w y C) (hyn : nilNone y) (hyc : ∀ a n c, y = .slice a n c → n ≤ c) (hl : WW.length ≤ 9223372036854775807) (hCl : C.length ≤ 9223372036854775807) (hci : ∀ c ∈ C, FitsB c) (hln : ∀ W ∈ WW, W.length ≤ 9223372036854775807) (hsz : ∀ W ∈ WW, ∀ t ∈ W, t.size ≤ 9223372036854775807) (hm1 : m1.size ≤ 9223372036854775807) (hm2 : m2.size ≤ 9223372036854775807) :
    Calls Try.prog 4 #[x, y, .agg #[.string m1, .string m2]] w fun e w' => e = .returned (.bool true) ∧ Below w.heap.size w w' := by
  obtain ⟨M, hM⟩ : ∃ M, w.heap.size = M := ⟨_, rfl⟩
  obtain ⟨wa, hwa⟩ : ∃ wa, w.alloc (.cells #[.string m1, .string m2] 33) = wa := ⟨_, rfl⟩
  have hba : wa.heap[M]? = some (.cells #[.string m1, .string m2] 33 (0, 0)) := by rw [← hwa, ← hM]; exact heap_alloc_new w _
  have hbe : Below w.heap.size w wa := by rw [← hwa]; exact (Below.refl _ w).alloc (Nat.le_refl _) _
  have hsa : wa.heap.size = M + 1 := by rw [← hwa, World.size_alloc, hM]
  obtain ⟨a, cx, rfl⟩ := hx.form
  obtain ⟨ay, cy, rfl, _⟩ := id hy
  obtain ⟨N, hN⟩ : ∃ N, WW.length = N := ⟨_, rfl⟩
  obtain ⟨NC, hNC⟩ : ∃ N, C.length = N := ⟨_, rfl⟩
  rw [hN] at hx hl ⊢
  rw [hNC] at hy hCl hyn hyc ⊢
  have HYN := Lib.hid (And.intro hyn hyc)
  have HX := Lib.hid hx
  have HY := Lib.hid hy
  have HN := Lib.hid hN
  have HNC := Lib.hid hNC
  have HCI := Lib.hid hci
  have HLN := Lib.hid hln
  have HSZ := Lib.hid hsz
  have HP := Lib.hid hP
  have HBS := Lib.hid hBs
  have HJS := Lib.hid hJs
  have HBE := Lib.hid hbe
  have HSA := Lib.hid hsa
  have HLL := Lib.hid (And.intro hl hCl)
  have cA := nvawake_any hP wa
  have HMB : Hid (∀ W, Below wa.heap.size wa W → W.cell? ⟨M, 0, none⟩ = some (.string m1) ∧ W.cell? ⟨M, 1, none⟩ = some (.string m2)) := Lib.hid fun W hb => two_cells ((hb.block M (by rw [hsa]; omega)).trans hba)
  clear hx hy hN hNC hci hln hsz hP hBs hJs hbe hba hsa hl hCl hyn hyc
  go_enter Try.func4, Try.ntmps4
  go_wp2_with fail
  refine cA.mono ?_
  rintro e w1 ⟨rfl, hb1⟩
  have HB1 := Lib.hid hb1
  have HBW : Hid (Below w.heap.size w w1) := Lib.hid (HBE.out.trans (hb1.mono HBE.out.size))
  obtain ⟨b0, b1⟩ := HMB.out w1 hb1
  clear cA hb1 hwa hM
  by_cases g1 : 20 < N
  · have hd1 : decide ((20 : Int) < (N : Int)) = true := decide_eq_true (by omega)
    go_wp2
    go_ret
    exact ⟨rfl, HBW.out⟩
  have hd1 : decide ((20 : Int) < (N : Int)) = false := decide_eq_false (by omega)
  by_cases g2 : 20 < m1.size
  · have hd2 : decide ((20 : Int) < (m1.size : Int)) = true := decide_eq_true (by omega)
    go_wp2
    go_ret
    exact ⟨rfl, HBW.out⟩
  have hd2 : decide ((20 : Int) < (m1.size : Int)) = false := decide_eq_false (by omega)
  by_cases g3 : 20 < m2.size
  · have hd3 : decide ((20 : Int) < (m2.size : Int)) = true := decide_eq_true (by omega)
    go_wp2
    go_ret
    exact ⟨rfl, HBW.out⟩
  have hd3 : decide ((20 : Int) < (m2.size : Int)) = false := decide_eq_false (by omega)
  have HG := Lib.hid (And.intro g1 (And.intro g2 g3))
  have HST : Hid (BeRel1 WW C w1 (.int .i64 0) w1) := Lib.hid ⟨0, rfl, Nat.zero_le _, fun j h hj => by omega, rfl⟩
  clear g1 g2 g3
  go_wp2
  clear hd1 hd2 hd3
  go_loopw [7] (fun i wr => BeRel1 WW C w1 i wr) (fun i _ => N - (intOf i).toNat)
  case atStart => exact HST.out
  case round =>
    clear HST b0 b1
    obtain ⟨i, rfl, hi, hok, hwr⟩ := hrel
    obtain rfl := hwr.symm
    rw [HN.out] at hi
    have HOK := Lib.hid hok
    have HNN : Hid (N ≤ 20) := Lib.hid (by have := HG.out.1; omega)
    clear hok
    by_cases hgo : i < N
    · have hgoI : (i : Int) < (N : Int) := by omega
      have hiW : i < WW.length := by rw [HN.out]; exact hgo
      have hX := HX.out
      rw [← HN.out] at hX
      obtain ⟨ad, ai, ci, rfl, hnn, hrow⟩ := hX.row2 hiW
      obtain ⟨W, hW⟩ : ∃ W, WW[i] = W := ⟨_, rfl⟩
      obtain ⟨n, hn⟩ : ∃ n, W.length = n := ⟨_, rfl⟩
      rw [hW, hn] at hrow
      have HW := Lib.hid hW
      have HNW := Lib.hid hn
      obtain ⟨r0, r1⟩ := hrow w1 HBW.out
      have HR1 := Lib.hid r1
      have HS := Lib.hid (HSZ.out W (by rw [← hW]; exact List.getElem_mem _))
      have hnl : n ≤ 9223372036854775807 := by rw [← hn]; exact HLN.out W (by rw [← hW]; exact List.getElem_mem _)
      have hni := HNN.out
      clear hX hrow hW hn r1 hnn
      have hwi : IntKind.i64.wrap ((i : Int) + 1) = (i : Int) + 1 := IntWalk.i64_in _ (by omega)
      by_cases h40 : 40 < n
      · have hd1 : decide ((40 : Int) < (n : Int)) = true := decide_eq_true (by omega)
        go_wp2
        go_ret
        exact ⟨rfl, HBW.out⟩
      have hd1 : decide ((40 : Int) < (n : Int)) = false := decide_eq_false (by omega)
      by_cases hc : i < NC
      · have hd2 : decide ((i : Int) < (NC : Int)) = true := decide_eq_true (by omega)
        have hd2' : decide (i < NC) = true := decide_eq_true hc
        have hcI : (i : Int) < (NC : Int) := by omega
        have hiC : i < C.length := by rw [HNC.out]; exact hc
        obtain ⟨ay', rfl⟩ : ∃ ad, ay = some ad := by
          obtain ⟨_, _, e1, hcc⟩ := HY.out
          obtain ⟨ad, e2, _⟩ := hcc i hiC
          exact ⟨ad, (Value.slice.inj e1).1.trans e2⟩
        have hY' := HY.out
        rw [← HNC.out] at hY'
        have q0 := ints_cell hY' HBW.out hiC
        obtain ⟨c, hcc⟩ : ∃ c, C[i] = c := ⟨_, rfl⟩
        rw [hcc] at q0
        have HCC : Hid (C[i] = c) := Lib.hid hcc
        clear hY' hcc
        by_cases hbig : (1000000 : Int) < c
        · have hd3 : decide ((1000000 : Int) < c) = true := decide_eq_true hbig
          go_wp2
          go_ret
          exact ⟨rfl, HBW.out⟩
        have hd3 : decide ((1000000 : Int) < c) = false := decide_eq_false hbig
        have HC3 : Hid (∀ h' : i < C.length, C[i] ≤ 1000000) := Lib.hid fun h' => by rw [HCC.out]; omega
        clear HCC
        go_wp2
        go_loopw [8] (fun x wr => BeRel2 W w1 x wr) (fun x _ => n - (intOf x).toNat)
        case atStart => exact ⟨0, rfl, Nat.zero_le _, fun j h hj => by omega, rfl⟩
        case round =>
          obtain ⟨k, rfl, hk, hs, hwr2⟩ := hrel
          obtain rfl := hwr2.symm
          rw [HNW.out] at hk
          have HSK := Lib.hid hs
          clear hs
          by_cases hgk : k < n
          · have hgkI : (k : Int) < (n : Int) := by omega
            have hkW : k < W.length := by rw [HNW.out]; exact hgk
            have hR := HR1.out
            rw [← HNW.out] at hR
            obtain ⟨ad2, rfl, t0⟩ := text_in hR (Below.refl _ _) hkW
            obtain ⟨z, hz⟩ : ∃ z, W[k] = z := ⟨_, rfl⟩
            have hzs : z.size ≤ 9223372036854775807 := by rw [← hz]; exact HS.out _ (List.getElem_mem _)
            rw [hz] at t0
            have HZ := Lib.hid hz
            have hwk : IntKind.i64.wrap ((k : Int) + 1) = (k : Int) + 1 := IntWalk.i64_in _ (by omega)
            clear hR hz
            by_cases hzb : 20 < z.size
            · have hd4 : decide ((20 : Int) < (z.size : Int)) = true := decide_eq_true (by omega)
              go_wp2
              go_ret
              exact ⟨rfl, HBW.out⟩
            · have hd4 : decide ((20 : Int) < (z.size : Int)) = false := decide_eq_false (by omega)
              go_wp2
              go_roundw
              case rel => exact ⟨k + 1, by simp, by rw [HNW.out]; exact hgk, fun j h hj => by
                by_cases e : j < k
                · exact HSK.out j h e
                · obtain rfl : j = k := by omega
                  rw [HZ.out]; omega, rfl⟩
              case measure => simp [intOf]; omega
          · have hgkI : ¬ (k : Int) < (n : Int) := by omega
            go_wp2
            go_roundw
            case rel => exact ⟨i + 1, by simp, by rw [HN.out]; exact hgo, HOK.out.next hiW (by rw [HW.out, HNW.out]; omega) (fun j h => by
              have h' : j < W.length := by rw [← HW.out]; exact h
              have := HSK.out j h' (by rw [HNW.out] at h'; omega)
              simpa [HW.out] using this) HC3.out, rfl⟩
            case measure => simp [intOf]; omega
      · have hd2 : decide ((i : Int) < (NC : Int)) = false := decide_eq_false (by omega)
        have hd2' : decide (i < NC) = false := decide_eq_false hc
        have HC3 : Hid (∀ h' : i < C.length, C[i] ≤ 1000000) := Lib.hid fun h' => absurd h' (by rw [HNC.out]; exact hc)
        go_wp2
        go_loopw [8] (fun x wr => BeRel2 W w1 x wr) (fun x _ => n - (intOf x).toNat)
        case atStart => exact ⟨0, rfl, Nat.zero_le _, fun j h hj => by omega, rfl⟩
        case round =>
          obtain ⟨k, rfl, hk, hs, hwr2⟩ := hrel
          obtain rfl := hwr2.symm
          rw [HNW.out] at hk
          have HSK := Lib.hid hs
          clear hs
          by_cases hgk : k < n
          · have hgkI : (k : Int) < (n : Int) := by omega
            have hkW : k < W.length := by rw [HNW.out]; exact hgk
            have hR := HR1.out
            rw [← HNW.out] at hR
            obtain ⟨ad2, rfl, t0⟩ := text_in hR (Below.refl _ _) hkW
            obtain ⟨z, hz⟩ : ∃ z, W[k] = z := ⟨_, rfl⟩
            have hzs : z.size ≤ 9223372036854775807 := by rw [← hz]; exact HS.out _ (List.getElem_mem _)
            rw [hz] at t0
            have HZ := Lib.hid hz
            have hwk : IntKind.i64.wrap ((k : Int) + 1) = (k : Int) + 1 := IntWalk.i64_in _ (by omega)
            clear hR hz
            by_cases hzb : 20 < z.size
            · have hd4 : decide ((20 : Int) < (z.size : Int)) = true := decide_eq_true (by omega)
              go_wp2
              go_ret
              exact ⟨rfl, HBW.out⟩
            · have hd4 : decide ((20 : Int) < (z.size : Int)) = false := decide_eq_false (by omega)
              go_wp2
              go_roundw
              case rel => exact ⟨k + 1, by simp, by rw [HNW.out]; exact hgk, fun j h hj => by
                by_cases e : j < k
                · exact HSK.out j h e
                · obtain rfl : j = k := by omega
                  rw [HZ.out]; omega, rfl⟩
              case measure => simp [intOf]; omega
          · have hgkI : ¬ (k : Int) < (n : Int) := by omega
            go_wp2
            go_roundw
            case rel => exact ⟨i + 1, by simp, by rw [HN.out]; exact hgo, HOK.out.next hiW (by rw [HW.out, HNW.out]; omega) (fun j h => by
              have h' : j < W.length := by rw [← HW.out]; exact h
              have := HSK.out j h' (by rw [HNW.out] at h'; omega)
              simpa [HW.out] using this) HC3.out, rfl⟩
            case measure => simp [intOf]; omega
    · have hgoI : ¬ (i : Int) < (N : Int) := by omega
      obtain ⟨hsm, hco⟩ := HOK.out.all (by rw [HN.out]; omega)
      have HSM := Lib.hid hsm
      have hX := HX.out
      have hY := HY.out
      have hNN := HNN.out
      have cB := HBS.out _ _ WW C w1 (HX.out.below HBW.out) (HY.out.below HBW.out (Nat.le_refl _)) (by rw [HN.out]; exact hNN) (by rw [HNC.out]; exact HLL.out.2) HCI.out hsm hco HYN.out.1 HYN.out.2
      have HCP : Hid (capW WW C ≤ 9223372036854775807 ∧ allT WW ≤ 800) := Lib.hid (by
        have h1 := cap_few WW C (fun W hW => (hsm W hW).1) hco
        have h2 := all_few WW fun W hW => (hsm W hW).1
        rw [HN.out] at h1 h2
        exact ⟨by omega, by omega⟩)
      clear hsm hco hX hY HOK
      go_wp2_with fail
      refine cB.mono ?_
      rintro e w2 ⟨b, nb, hbr, rfl, hb2⟩
      obtain ⟨bl, br⟩ := b
      obtain ⟨s1, s2⟩ := best_small hbr HSM.out
      have HBS2 : Hid (bl.size ≤ 20 ∧ br.size ≤ 20) := Lib.hid ⟨s1, s2⟩
      have HBR := Lib.hid hbr
      have HB2 : Hid (Below w1.heap.size w1 w2) := Lib.hid hb2
      have HBW2 : Hid (Below w.heap.size w w2) := Lib.hid (HBW.out.trans (hb2.mono HBW.out.size))
      obtain ⟨Mb, hMb⟩ : ∃ M, w2.heap.size = M := ⟨_, rfl⟩
      obtain ⟨wb, hwb⟩ : ∃ wb, w2.alloc (.cells #[.string bl, .string br] 33) = wb := ⟨_, rfl⟩
      have hbx : wb.heap[Mb]? = some (.cells #[.string bl, .string br] 33 (0, 0)) := by rw [← hwb, ← hMb]; exact heap_alloc_new w2 _
      have hbb : Below w2.heap.size w2 wb := by rw [← hwb]; exact (Below.refl _ w2).alloc (Nat.le_refl _) _
      have HBX := Lib.hid hbx
      have HBB : Hid (Below w1.heap.size w1 wb) := Lib.hid (hb2.trans (hbb.mono hb2.size))
      have HBWB : Hid (Below w.heap.size w wb) := Lib.hid (HBW2.out.trans (hbb.mono HBW2.out.size))
      have hNN := HNN.out
      have cR := rbest_any _ _ WW C wb (HX.out.below HBWB.out) (HY.out.below HBWB.out (Nat.le_refl _)) (by rw [HN.out]; omega) (by rw [HNC.out]; exact HLL.out.2) (by have := HCP.out.2; omega) HCP.out.1 (fun W hW t ht => by have := (HSM.out W hW).2 t ht; omega)
      clear cB hbr hb2 hbx hbb s1 s2
      go_wp2_with fail
      refine cR.mono ?_
      rintro e w3 ⟨b', nb', hbr, rfl, hb3⟩
      obtain ⟨rfl, rfl⟩ := best_uni HBR.out hbr
      obtain ⟨Mc, hMc⟩ : ∃ M, w3.heap.size = M := ⟨_, rfl⟩
      obtain ⟨wc, hwc⟩ : ∃ wb, w3.alloc (.cells #[.string bl, .string br] 33) = wb := ⟨_, rfl⟩
      have hcx : wc.heap[Mc]? = some (.cells #[.string bl, .string br] 33 (0, 0)) := by rw [← hwc, ← hMc]; exact heap_alloc_new w3 _
      have hcc : Below w3.heap.size w3 wc := by rw [← hwc]; exact (Below.refl _ w3).alloc (Nat.le_refl _) _
      have hbc : Below wb.heap.size wb wc := hb3.trans (hcc.mono hb3.size)
      have hbx' := (hbc.block Mb (Array.getElem?_eq_some_iff.1 HBX.out).1).trans HBX.out
      have HB1c : Hid (Below w1.heap.size w1 wc) := Lib.hid (HBB.out.trans (hbc.mono HBB.out.size))
      have HBWC : Hid (Below w.heap.size w wc) := Lib.hid (HBWB.out.trans (hbc.mono HBWB.out.size))
      have HBac : Hid (Below wa.heap.size wa wc) := Lib.hid (HB1.out.trans (HB1c.out.mono HB1.out.size))
      have HBOX : Hid (∀ W, Below wc.heap.size wc W → (W.cell? ⟨M, 0, none⟩ = some (.string m1) ∧ W.cell? ⟨M, 1, none⟩ = some (.string m2)) ∧ (W.cell? ⟨Mb, 0, none⟩ = some (.string bl) ∧ W.cell? ⟨Mb, 1, none⟩ = some (.string br)) ∧ (W.cell? ⟨Mc, 0, none⟩ = some (.string bl) ∧ W.cell? ⟨Mc, 1, none⟩ = some (.string br))) := Lib.hid fun W hb =>
        ⟨HMB.out W (HBac.out.trans (hb.mono HBac.out.size)), two_cells ((hb.block Mb (Array.getElem?_eq_some_iff.1 hbx').1).trans hbx'), two_cells ((hb.block Mc (Array.getElem?_eq_some_iff.1 hcx).1).trans hcx)⟩
      obtain ⟨_, ⟨q0, q1⟩, ⟨p0, p1⟩⟩ := HBOX.out wc (Below.refl _ _)
      have HXC : Hid (rowsT wc (.slice a N cx) WW) := Lib.hid (HX.out.below HBWC.out)
      have HS3 : Hid (BeRel3 N wc (.int .i64 0) wc) := Lib.hid ⟨0, rfl, Nat.zero_le _, Below.refl _ _⟩
      clear cR hbr hb3 hcx hcc hbc hbx' hMb
      go_wp2_with fail
      clear q0 q1 p0 p1 hMc
      go_loopw [13] (fun i wr => BeRel3 N wc i wr) (fun i _ => N - (intOf i).toNat)
      case atStart => exact HS3.out
      case round =>
        clear HS3 hwb hwc
        obtain ⟨k, rfl, hk, hbel⟩ := hrel
        have HBK := Lib.hid hbel
        clear hbel
        by_cases hgk : k < N
        · have hgkI : (k : Int) < (N : Int) := by omega
          have hkW : k < WW.length := by rw [HN.out]; exact hgk
          have hX := HXC.out
          rw [← HN.out] at hX
          obtain ⟨ad, ai, ci, rfl, hnn, hrow⟩ := hX.row2 hkW
          obtain ⟨W, hW⟩ : ∃ W, WW[k] = W := ⟨_, rfl⟩
          obtain ⟨n, hn⟩ : ∃ n, W.length = n := ⟨_, rfl⟩
          have hsW := HSM.out W (by rw [← hW]; exact List.getElem_mem _)
          rw [hW, hn] at hrow hnn
          have HG2 := HG.out
          have HBZ := HBS2.out
          have HTR : Hid (∀ W1 W2, Below wr.heap.size wr W1 → Below W1.heap.size W1 W2 → Below wr.heap.size wr W2) := Lib.hid fun W1 W2 h1 h2 => h1.trans (h2.mono h1.size)
          have HAE : Hid (∀ W', Below wr.heap.size wr W' → AtE ad k M Mb Mc ai n ci m1 m2 bl br W') := Lib.hid fun W' hb => by
            have hb' := HBK.out.trans (hb.mono HBK.out.size)
            exact ⟨(hrow W' hb').1, HBOX.out W' hb'⟩
          have HRD : ∀ W', Below wr.heap.size wr W' → eltsAt textE W' (.slice ai n ci) W := fun W' hb => (hrow W' (HBK.out.trans (hb.mono HBK.out.size))).2
          have HJ1 : Hid (∀ W', Below wr.heap.size wr W' → Calls Try.prog 15 #[.slice ai n ci, .agg #[.string m1, .string m2]] W' fun e w' => NvJRet (m1, m2) W W' e w') := Lib.hid fun W' hb => HJS.out (m1, m2) _ W W' (HRD W' hb) hnn hsW (by simp only; omega) (by simp only; omega)
          have HJ2 : Hid (∀ W', Below wr.heap.size wr W' → Calls Try.prog 15 #[.slice ai n ci, .agg #[.string bl, .string br]] W' fun e w' => NvJRet (bl, br) W W' e w') := Lib.hid fun W' hb => HJS.out (bl, br) _ W W' (HRD W' hb) hnn hsW (by simp only; omega) (by simp only; omega)
          have HK1 : Hid (∀ W', Below wr.heap.size wr W' → Calls Try.prog 16 #[.slice ai n ci, .agg #[.string m1, .string m2]] W' fun e w' => JnRet (m1, m2) W W' e w') := Lib.hid fun W' hb => rjoin_any (m1, m2) _ W W' (HRD W' hb) (by have := hsW.1; omega) (by simp only; omega)
          have HK2 : Hid (∀ W', Below wr.heap.size wr W' → Calls Try.prog 16 #[.slice ai n ci, .agg #[.string bl, .string br]] W' fun e w' => JnRet (bl, br) W W' e w') := Lib.hid fun W' hb => rjoin_any (bl, br) _ W W' (HRD W' hb) (by have := hsW.1; omega) (by simp only; omega)
          have HJL : Hid (∀ m, (joinT m W).length ≤ 1000000) := Lib.hid fun m => by have := join_len m W; have := hsW.1; omega
          have hwk : IntKind.i64.wrap ((k : Int) + 1) = (k : Int) + 1 := IntWalk.i64_in _ (by have := HNN.out; omega)
          have hb0 : Below wr.heap.size wr wr := Below.refl _ _
          have hb0' : Below wr.heap.size wr wr.drew := (Below.refl _ _).drew
          clear hX hrow hnn hW hn hsW HG2 HBZ HRD
          go_wp2_with fail
          go_region_held3 (AtE ad k M Mb Mc ai n ci m1 m2 bl br)
            (first | exact HAE.out _ hb0 | exact HAE.out _ hb0' | with_reducible exact HAE.out _ (by assumption))
            (first
              | (go_at_call 15
                 first
                   | (with_reducible refine (HJ1.out _ (by assumption)).mono ?_)
                   | (with_reducible refine (HJ2.out _ (by assumption)).mono ?_)
                 rintro e w4 ⟨v4, rfl, hv4, hb4⟩
                 have hc4 := HTR.out _ _ (by assumption) hb4
                 have HV4 := Lib.hid hv4
                 clear hv4 hb4)
              | (go_at_call 16
                 first
                   | (with_reducible refine (HK1.out _ (by assumption)).mono ?_)
                   | (with_reducible refine (HK2.out _ (by assumption)).mono ?_)
                 rintro e w5 ⟨v5, rfl, hv5, hb5⟩
                 have hc5 := HTR.out _ _ (by assumption) hb5
                 have HV5 := Lib.hid hv5.reads
                 have HV45 := Lib.hid (HV4.out.below hb5 (Nat.le_refl _))
                 clear hv5 hb5)
              | (go_at_call 14
                 refine (ntexts_true _ _ _ _ HV45.out HV5.out (HJL.out _)).mono ?_
                 rintro e w6 ⟨rfl, hb6⟩
                 have hc6 := HTR.out _ _ (by assumption) hb6
                 clear hb6))
          go_wp2
          go_roundw
          case rel => exact ⟨k + 1, by simp, hgk, HBK.out.trans (Below.mono (by assumption) HBK.out.size)⟩
          case measure => simp [intOf]; omega
        · have hgkI : ¬ (k : Int) < (N : Int) := by omega
          go_wp2
          go_ret
          exact ⟨rfl, HBWC.out.trans (HBK.out.mono HBWC.out.size)⟩
end Go.Proofs.Ytbacbgpemaldbaa
