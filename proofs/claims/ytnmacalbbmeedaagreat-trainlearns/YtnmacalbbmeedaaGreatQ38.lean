/- Texts in one: Check, IxNew. -/
import Derived.Test.YtnmacalbbmeedaaGreatQ10
import Derived.BigQuiet
import Derived.Test.YtnmacalbbmeedaaGreatQ37
import Derived.Test.YtnmacalbbmeedaaGreatQ22
/- Check of layer 8. -/
namespace Go.Proofs.YtnmacalbbmeedaaGreat
open Go.RowKit

set_option maxRecDepth 100000 in
theorem run_leq (t u : ByteArray) (w : World) : (binOp .leq 9 (.string t) (.string u)).run Tryz.prog w = .ok (.bool (Op.bytesLess t.toList u.toList || t.toList == u.toList)) w := by kernel_rfl
def CheckRel (L : Bag) (w : World) (i : Value) (wr : World) : Prop :=
  ∃ k : Nat, i = .int .i64 (k : Int) ∧ k ≤ L.length ∧ checkFrom 0 none L = checkFrom k (before L k) (L.drop k) ∧ Below w.heap.size w wr
set_option maxRecDepth 100000 in
theorem checkRel_step {L : Bag} {w wr : World} {k : Nat} (hk : k < L.length) (hc : checkFrom 0 none L = checkFrom k (before L k) (L.drop k)) (h : wrongBy (before L k) L[k] = 0) (hb : Below w.heap.size w wr) : CheckRel L w (.int .i64 ((k : Int) + 1)) wr :=
  ⟨k + 1, by simp, hk, hc.trans (check_next hk h), hb⟩
set_option maxRecDepth 100000 in
/-- A word laid apart, and read again behind what turns nothing that was there. -/
theorem box_at {wr w2 : World} {s : ByteArray} {c : Int} (hb : Below (wr.alloc (.cells #[.string s, .int .i64 c] 56)).heap.size (wr.alloc (.cells #[.string s, .int .i64 c] 56)) w2) :
    w2.cell? ⟨wr.heap.size, 0, none⟩ = some (.string s) ∧ w2.cell? ⟨wr.heap.size, 1, none⟩ = some (.int .i64 c) := by
  have hh := heap_alloc_new wr (.cells #[.string s, .int .i64 c] 56)
  have hlt := (Array.getElem?_eq_some_iff.1 hh).1
  exact ⟨(hb.cell hlt).trans (by rw [cell_of_row _ _ 0 _ 56 (0, 0) hh]; rfl), (hb.cell hlt).trans (by rw [cell_of_row _ _ 1 _ 56 (0, 0) hh]; rfl)⟩
set_option maxRecDepth 100000 in
set_option maxHeartbeats 2000000 in
theorem check_any (v : Value) (L : Bag) (w : World) (hv : wordsAt w v L) (hL : L.length ≤ 1000000) (hf : Fits L) :
    Calls Tryz.prog 46 #[v] w fun e w' => e = .returned (.tuple #[.int .i64 (checkOf L).1, .int .i64 (checkOf L).2]) ∧ Below w.heap.size w w' := by
  have HV := Lib.hid hv
  obtain ⟨a, cap, rfl, hc⟩ := hv
  have HC := Lib.hid hc
  clear hc
  go_enter Tryz.func46, Tryz.ntmps46
  go_wp2
  go_loopw [11] (fun i wr => CheckRel L w i wr) (fun i _ => L.length + 1 - (intOf i).toNat)
  case atStart => exact ⟨0, rfl, by omega, rfl, Below.refl _ _⟩
  case round =>
    obtain ⟨k, rfl, hk, hck, hb⟩ := hrel
    have HB := Lib.hid hb; have HK := Lib.hid hck
    clear hb hck
    by_cases hgo : k < L.length
    · have hkI : (k : Int) < (L.length : Int) := by omega
      obtain ⟨ad, rfl, _⟩ := HC.out k hgo
      obtain ⟨c0, c1⟩ := words_at HV.out HB.out hgo
      have HT := Lib.hid (hf.at hgo).1
      have hwr := HB.out.size
      obtain ⟨⟨t, tc⟩, ht⟩ : ∃ p, L[k] = p := ⟨_, rfl⟩
      rw [ht] at c0 c1 HT
      have HE := Lib.hid ht
      clear ht
      have cW := fun w => word_any t tc w HT.out
      obtain ⟨z, hz⟩ : ∃ z, wrongW t tc = z := ⟨_, rfl⟩
      rw [hz] at cW
      have HZ := Lib.hid hz
      clear hz
      have HBa : Hid (Below w.heap.size w (wr.alloc (.cells #[.string t, .int .i64 tc] 56))) := Lib.hid (HB.out.alloc HB.out.size _)
      go_wp2_with fail
      refine (cW _).mono ?_
      rintro e w2 ⟨rfl, hb2⟩
      have HB2 : Hid (Below w.heap.size w w2) := Lib.hid (HBa.out.trans (hb2.mono HBa.out.size))
      obtain ⟨x0, x1⟩ := box_at hb2
      clear hb2 c0 c1 cW HBa
      by_cases h0 : z = 0
      · subst h0
        have HZ2 : Hid (wrongW L[k].1 L[k].2 = 0) := Lib.hid (by rw [HE.out]; exact HZ.out)
        by_cases hk0 : 0 < k
        · have hd : decide (0 < k) = true := decide_eq_true hk0
          obtain ⟨j, hj⟩ : ∃ j, j + 1 = k := ⟨k - 1, by omega⟩
          have hjI : (k : Int) - 1 = (j : Int) := by omega
          have hjL : j < L.length := by omega
          have hwj : IntKind.i64.wrap (j : Int) = (j : Int) := IntWalk.i64_in _ (by omega)
          have hjl : (j : Int) < (L.length : Int) := by omega
          obtain ⟨y0, y1⟩ := words_at HV.out HB2.out hjL
          obtain ⟨⟨u, uc⟩, hu⟩ : ∃ p, L[j] = p := ⟨_, rfl⟩
          rw [hu] at y0 y1
          have HU := Lib.hid hu
          have HJ := Lib.hid hj
          clear hu hj hk0
          cases ha : ahead u t with
          | true =>
            have h1 : ∀ w, (binOp .leq 9 (.string t) (.string u)).run Tryz.prog w = .ok (.bool false) w := fun w => by
              rw [run_leq, op_less, ahead_asymm ha, text_ne (ahead_ne ha).symm]; rfl
            have HN : Hid (wrongBy (before L k) L[k] = 0) := Lib.hid (wrong_less HJ.out hjL HZ2.out (by rw [HU.out, HE.out]; exact ha))
            go_wp2
            go_quiet (fail)
            go_wp2
            go_roundw
            case rel => exact checkRel_step hgo HK.out HN.out (below_drewN' HB2.out _)
            case measure => simp [intOf]; omega
          | false =>
            have HN : Hid (wrongBy (before L k) L[k] = 6) := Lib.hid (wrong_more HJ.out hjL HZ2.out (by rw [HU.out, HE.out]; exact ha))
            have HS := Lib.hid (check_stop hgo HK.out HN.out (by decide))
            by_cases hut : u = t
            · subst hut
              have h1 : ∀ w, (binOp .leq 9 (.string u) (.string u)).run Tryz.prog w = .ok (.bool true) w := fun w => by
                rw [run_leq]; simp
              go_wp2
              go_quiet (fail)
              go_wp2
              go_ret2
              rw [HS.out]
              exact ⟨rfl, below_drewN' HB2.out _⟩
            · have h1 : ∀ w, (binOp .leq 9 (.string t) (.string u)).run Tryz.prog w = .ok (.bool true) w := fun w => by
                rw [run_leq, op_less, (ahead_total hut).resolve_left (by rw [ha]; simp)]; rfl
              go_wp2
              go_quiet (fail)
              go_wp2
              go_ret2
              rw [HS.out]
              exact ⟨rfl, below_drewN' HB2.out _⟩
        · have hd : decide (0 < k) = false := decide_eq_false hk0
          have HN : Hid (wrongBy (before L k) L[k] = 0) := Lib.hid (by
            obtain rfl : k = 0 := by omega
            exact wrong_first HZ2.out L)
          clear hk0
          go_wp2
          go_quiet (fail)
          go_wp2
          go_roundw
          case rel => exact checkRel_step hgo HK.out HN.out (below_drewN' HB2.out _)
          case measure => simp [intOf]; omega
      · have HS := Lib.hid (check_stop hgo HK.out (wrong_self (by rw [HE.out]; exact HZ.out) h0) h0)
        go_wp2
        go_ret2
        rw [HS.out]
        exact ⟨rfl, HB2.out⟩
    · have hkI : ¬ (k : Int) < (L.length : Int) := by omega
      have HV2 := Lib.hid (HV.out.below HB.out (Nat.le_refl _))
      have HS := Lib.hid (check_end (by omega) HK.out)
      have cW := weight_any _ L wr HV2.out hL hf
      obtain ⟨⟨q, b⟩, hq⟩ : ∃ r, weighOf L = r := ⟨_, rfl⟩
      rw [hq] at cW HS
      clear hq
      go_wp2_with fail
      refine cW.mono ?_
      rintro e w2 ⟨rfl, hb2⟩
      have HB2 : Hid (Below w.heap.size w w2) := Lib.hid (HB.out.trans (hb2.mono HB.out.size))
      clear hb2
      cases b with
      | true =>
        go_wp2
        go_ret2
        rw [HS.out]
        exact ⟨rfl, HB2.out⟩
      | false =>
        go_wp2
        go_ret2
        rw [HS.out]
        exact ⟨rfl, HB2.out⟩
end Go.Proofs.YtnmacalbbmeedaaGreat
/- An index made of a table. -/
namespace Go.Proofs.YtnmacalbbmeedaaGreat
open Go.RowKit Go.Maps

/-- What New tells, and leaves. -/
def NewRet (L : Bag) (w : World) (e : Ending) (w' : World) : Prop :=
  Below w.heap.size w w' ∧ (((checkOf L).2 ≠ 0 ∧ e = .returned (.tuple #[.pointer none, .int .i64 (checkOf L).2])) ∨
    ((checkOf L).2 = 0 ∧ ∃ (K : Nat) (lab : Nat → Lab) (V : Int × Int → Value) (M : Mdl), e = .returned (.tuple #[.pointer (some ⟨K, 0, none⟩), .int .i64 0]) ∧ IxM w' lab K 200000 V M ∧ GoodM M 256 (hasW (wsOf L)) ∧ M.ws = wsOf L ∧ M.pos = (bytesOf L : Int) ∧ M.tou = 0 ∧ ∀ i, i < w.heap.size → lab i = .no))
def NewRel (L : Bag) (w : World) (K : Nat) (i : Value) (wr : World) : Prop :=
  ∃ (k : Nat) (lab : Nat → Lab) (V : Int × Int → Value) (M : Mdl), i = .int .i64 (k : Int) ∧ k ≤ L.length ∧ IxM wr lab K (1000 * k) V M ∧ GoodM M 256 (hasW ((wsOf L).take k)) ∧ M.ws = (wsOf L).take k ∧ M.pos = (bytesOf L : Int) ∧ M.tou = 0 ∧ Below w.heap.size w wr ∧ ∀ i, i < w.heap.size → lab i = .no
set_option maxRecDepth 100000 in
/-- A new index. -/
theorem new_ix {w w1 : World} {P : Int} (hb : Below ((w.alloc (.cells #[.map none] 134)).alloc (.map #[] 0)).heap.size ((w.alloc (.cells #[.map none] 134)).alloc (.map #[] 0)) w1) :
    ∃ (lab : Nat → Lab) (V : Int × Int → Value) (M : Mdl), IxM (w1.alloc (.cells #[.slice none 0 0, .pointer (some ⟨w.heap.size, 0, none⟩), .map (some (w.heap.size + 1)), .int .i64 P, .int .i64 0] 102)) lab w1.heap.size 0 V M ∧ GoodM M 256 (fun _ _ => False) ∧ M.ws = [] ∧ M.pos = P ∧ M.tou = 0 ∧ ∀ i, i < w.heap.size → lab i = .no := by
  obtain ⟨wa, hwa⟩ : ∃ wa, wa = w.alloc (.cells #[.map none] 134) := ⟨_, rfl⟩
  have hsa : wa.heap.size = w.heap.size + 1 := by rw [hwa]; simp
  rw [← hwa] at hb
  obtain ⟨wb, hwb⟩ : ∃ wb, wb = wa.alloc (.map #[] 0) := ⟨_, rfl⟩
  have hsb : wb.heap.size = wa.heap.size + 1 := by rw [hwb]; simp
  rw [← hwb] at hb
  have hcA : Cts wa w.heap.size none [] := by rw [hwa]; exact new_cts w
  have hvB : VMap wb (w.heap.size + 1) 0 (fun _ => nilV) := by rw [hwb, ← hsa]; exact vmap_made wa
  have hcB : Cts wb w.heap.size none [] := by rw [hwb]; exact hcA.alloc _
  have hz := hb.size
  have hc1 := hcB.below hb
  have hv1 := hvB.kept (hb.block (w.heap.size + 1) (by omega))
  have e2 : ∀ {i}, i < w1.heap.size → (w1.alloc (.cells #[.slice none 0 0, .pointer (some ⟨w.heap.size, 0, none⟩), .map (some (w.heap.size + 1)), .int .i64 P, .int .i64 0] 102)).heap[i]? = w1.heap[i]? := fun hi => Below.heap_alloc _ _ _ hi
  refine ⟨fun i => if i = w1.heap.size then .idx else if i = w.heap.size then .cts else if i = w.heap.size + 1 then .pmap else .no, fun _ => nilV, ⟨[], [], fun _ => [], P, 0⟩, ⟨.slice none 0 0, w.heap.size, none, w.heap.size + 1, [], heap_alloc_new w1 _, ownE.nil _ _, rfl, fun j X t hj => by simp at hj, hc1.alloc _, hv1.kept (e2 (by omega)), fun q => ownE.nil _ _, by simp, fun g hg => (by cases hg), ?_, fun g hg => (by cases hg), ?_, fun q g hg => (by cases hg), fun i hi => ?_⟩, GoodM.start rfl rfl fun _ => rfl, rfl, rfl, rfl, fun i hi => ?_⟩
  · simp [show ¬ w.heap.size = w1.heap.size by omega]
  · simp [show ¬ w.heap.size + 1 = w1.heap.size by omega]
  · rw [World.size_alloc] at hi
    simp [show ¬ i = w1.heap.size by omega, show ¬ i = w.heap.size by omega, show ¬ i = w.heap.size + 1 by omega]
  · simp [show ¬ i = w1.heap.size by omega, show ¬ i = w.heap.size by omega, show ¬ i = w.heap.size + 1 by omega]
set_option maxRecDepth 100000 in
set_option maxHeartbeats 8000000 in
theorem xnew_any (v : Value) (L : Bag) (w : World) (hv : wordsAt w v L) (hf : Fits L) (hL : L.length ≤ 100) (hP : bytesOf L ≤ 1000) :
    Calls Tryz.prog 27 #[v] w fun e w' => NewRet L w e w' := by
  have HV := Lib.hid hv; have HF := Lib.hid hf; have HP := Lib.hid hP
  have cK := check_any v L w hv (by omega) hf
  obtain ⟨a, cap, rfl, _⟩ := hv
  obtain ⟨⟨z, er⟩, hch⟩ : ∃ r, checkOf L = r := ⟨_, rfl⟩
  rw [hch] at cK
  have HCH := Lib.hid hch
  clear hf hch
  by_cases h0 : er = 0
  · subst h0
    go_enter Tryz.func27, Tryz.ntmps27
    go_wp2_with fail
    refine cK.mono ?_
    rintro e w1 ⟨rfl, hb1⟩
    have HB1 := Lib.hid hb1
    have HV1 := Lib.hid (HV.out.below hb1 (Nat.le_refl _))
    obtain ⟨wa, hwa⟩ : ∃ wa, wa = w1.alloc (.cells #[.map none] 134) := ⟨_, rfl⟩
    obtain ⟨wb, hwb⟩ : ∃ wb, wb = wa.alloc (.map #[] 0) := ⟨_, rfl⟩
    obtain ⟨kc, hkc⟩ : ∃ kc, w1.heap.size = kc := ⟨_, rfl⟩
    have hsa : wa.heap.size = kc + 1 := by rw [hwa, ← hkc]; simp
    have HBB : Hid (Below w1.heap.size w1 wb) := Lib.hid (by rw [hwb, hwa]; exact ((Below.refl _ w1).alloc (Nat.le_refl _) _).alloc (by rw [World.size_alloc]; omega) _)
    have HPL := Lib.hid (positions_any _ L wb (HV1.out.below HBB.out (Nat.le_refl _)) (by omega) (by omega))
    have hmm := @run_makeMap Tryz.prog
    have HWA := Lib.hid hwa; have HWB := Lib.hid hwb; have HKC := Lib.hid hkc; have HSA := Lib.hid hsa
    have hwa' := hwa.symm
    have hwb' := hwb.symm
    clear hb1 cK hwa hwb
    go_wp2_with (first | (go_at_call 47; refine (dnew_any _).mono ?_; rintro e w2 ⟨rfl, rfl⟩) | (go_at_call 48; with_reducible refine HPL.out.mono ?_; rintro e w4 ⟨rfl, hb4⟩; have HB4 := Lib.hid hb4; clear hb4))
    obtain ⟨K, hK⟩ : ∃ K, w4.heap.size = K := ⟨_, rfl⟩
    obtain ⟨w5, hw5⟩ : ∃ w5, w5 = w4.alloc (.cells #[.slice none 0 0, .pointer (some ⟨kc, 0, none⟩), .map (some (kc + 1)), .int .i64 (bytesOf L : Int), .int .i64 0] 102) := ⟨_, rfl⟩
    have HRT := Lib.hid (right_facts (L := L) (by rw [HCH.out]))
    have H5 : Hid (NewRel L w K (.int .i64 0) w5) := Lib.hid (by
      have hb4 := HB4.out
      rw [HWB.out, HWA.out] at hb4
      obtain ⟨lab, V, M, i1, i2, i3, i4, i5, i6⟩ := new_ix (w := w1) (w1 := w4) (P := (bytesOf L : Int)) hb4
      rw [HKC.out, hK, ← hw5] at i1
      have b4 : Below w.heap.size w w4 := HB1.out.trans ((HBB.out.trans (HB4.out.mono HBB.out.size)).mono HB1.out.size)
      refine ⟨0, lab, V, M, rfl, Nat.zero_le _, i1.mono (by omega), i2.weaken fun _ _ h => h.elim, by rw [i3]; rfl, i4, i5, ?_, fun i hi => i6 i (by have := HB1.out.size; omega)⟩
      rw [hw5]
      exact b4.alloc b4.size _)
    rw [hK, ← hw5]
    obtain ⟨n, hn⟩ : ∃ n, L.length = n := ⟨_, rfl⟩
    have HNN := Lib.hid hn
    rw [hn] at HV ⊢
    have hn100 : n ≤ 100 := by omega
    clear hw5 hK hmm hwa' hwb' hkc hsa hn hL hP
    go_loopw [25] (fun i wr => NewRel L w K i wr) (fun i _ => n + 1 - (intOf i).toNat)
    case atStart => exact H5.out
    case round =>
      obtain ⟨k, lab, V, M, rfl, hk, hM, hG, hws, hpos, htou, hbel, hno⟩ := hrel
      rw [HNN.out] at hk
      have HM := Lib.hid hM; have HG := Lib.hid hG; have HWS := Lib.hid hws; have HPS := Lib.hid hpos; have HTU := Lib.hid htou; have HBL := Lib.hid hbel; have HNO := Lib.hid hno
      clear hM hG hws hpos htou hbel hno H5
      by_cases hgo : k < n
      · have hkI : (k : Int) < (n : Int) := by omega
        have hkL : k < L.length := by rw [HNN.out]; exact hgo
        have hkW : k < (wsOf L).length := by rw [ws_len]; exact hkL
        obtain ⟨ad, rfl⟩ : ∃ ad, a = some ad := by
          obtain ⟨_, _, e, hc⟩ := HV.out
          obtain ⟨ad, e2, _⟩ := hc k hkL
          exact ⟨ad, (Value.slice.inj e).1.trans e2⟩
        obtain ⟨x0, x1⟩ := words_at HV.out HBL.out hkL
        obtain ⟨⟨s, c⟩, hp⟩ : ∃ p, L[k] = p := ⟨_, rfl⟩
        rw [hp] at x0 x1
        simp only at x0 x1
        have hpr := HRT.out.1 _ (List.getElem_mem hkL)
        rw [hp] at hpr
        simp only at hpr
        have hwk : (wsOf L)[k] = (syms s, c) := by simp [wsOf, hp]
        have hsz : s.size ≤ 1000 := by
          have h1 := bytes_step hkL
          have h2 := bytes_le L (k + 1)
          rw [hp] at h1
          simp only at h1
          have := HP.out; omega
        have htk : (wsOf L).take (k + 1) = (wsOf L).take k ++ [(syms s, c)] := by rw [List.take_succ_eq_append_getElem hkW, hwk]
        have hwp := ws_pos HRT.out.1
        obtain ⟨wx, hwx⟩ : ∃ wx, wx = wr.alloc (.cells #[.string s, .int .i64 c] 56) := ⟨_, rfl⟩
        have bx : Below wr.heap.size wr wx := by rw [hwx]; exact (Below.refl _ wr).alloc (Nat.le_refl _) _
        have hcn : M.cnt.length ≤ 400000 := by
          have h1 := cn_len HG.out.cnt HG.out.pos HG.out.tells
          have h2 := len_take (wsOf L) k
          have h3 := ws_bytes L
          rw [HWS.out] at h1
          have := HP.out; omega
        have HCA := Lib.hid (xword_any K (1000 * k) lab V M _ s c wx (HM.out.below bx) HG.out hsz hpr.2 (by rw [HWS.out, ← htk]; exact Int.le_trans (wt_take hwp _) HRT.out.2.2) (by rw [HWS.out, List.length_take, ws_len]; omega) (by omega) hcn)
        have HBX := Lib.hid bx; have HTK := Lib.hid htk; have HWK : Hid (∀ h : k < (wsOf L).length, (wsOf L)[k] = (syms s, c)) := Lib.hid fun _ => hwk
        have HKW := Lib.hid hkW
        have hwx' := hwx.symm
        have y0 : wx.cell? ⟨wr.heap.size, 0, none⟩ = some (.string s) := by rw [hwx]; simp
        have y1 : wx.cell? ⟨wr.heap.size, 1, none⟩ = some (.int .i64 c) := by rw [hwx]; simp
        clear hkW hp hpr hwk hsz htk hwp hwx bx hcn hkL
        go_wp2_with fail
        refine HCA.out.mono ?_
        rintro e w6 ⟨rfl, lab6, V6, M6, hM6, hx6, hG6, hws6, hpos6, htou6⟩
        go_wp2_with fail
        go_roundw
        case rel =>
          have hxx := (XRet.below HBX.out).trans hx6
          refine ⟨k + 1, lab6, V6, M6, by simp, by rw [HNN.out]; omega, hM6.mono (by omega), hG6.weaken fun q z h => hasW_take HKW.out (HWK.out HKW.out) (by rw [HWS.out] at h; exact h), by rw [hws6, HWS.out, HTK.out], hpos6.trans HPS.out, htou6.trans HTU.out, HBL.out.trans (hxx.kept.below HBL.out.size fun i hi => ?_), fun i hi => (hxx.out (by have := HBL.out.size; omega) (HNO.out i hi)).1⟩
          refine Classical.byContradiction fun hlt => hi (HNO.out i (by omega))
        case measure => simp [intOf] <;> omega
      · have hkI : ¬ (k : Int) < (n : Int) := by omega
        obtain rfl : k = n := by omega
        go_wp2_with fail
        go_ret2
        have hall : (wsOf L).take k = wsOf L := List.take_of_length_le (by rw [ws_len, HNN.out]; exact Nat.le_refl _)
        refine ⟨HBL.out, .inr ⟨by rw [HCH.out], K, lab, V, M, rfl, HM.out.mono (by omega), by have := HG.out; rw [hall] at this; exact this, by rw [HWS.out, hall], HPS.out, HTU.out, HNO.out⟩⟩
  · have hne : (er == 0) = false := by simp [h0]
    have H0 := Lib.hid h0
    clear h0
    go_enter Tryz.func27, Tryz.ntmps27
    go_wp2_with fail
    refine cK.mono ?_
    rintro e w1 ⟨rfl, hb1⟩
    have HB1 := Lib.hid hb1
    clear hb1 cK
    go_wp2_with fail
    go_ret2
    refine ⟨HB1.out, .inl ⟨by rw [HCH.out]; exact H0.out, by rw [HCH.out]; rfl⟩⟩
end Go.Proofs.YtnmacalbbmeedaaGreat
