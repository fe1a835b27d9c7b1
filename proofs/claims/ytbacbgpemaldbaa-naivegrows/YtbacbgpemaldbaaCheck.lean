/- Check of layer 8. -/
import Derived.Test.YtbacbgpemaldbaaWeight
import Derived.BigQuiet
namespace Go.Proofs.Ytbacbgpemaldbaa
open Go.RowKit

set_option maxRecDepth 100000 in
theorem run_leq (t u : ByteArray) (w : World) : (binOp .leq 9 (.string t) (.string u)).run Try.prog w = .ok (.bool (Op.bytesLess t.toList u.toList || t.toList == u.toList)) w := by kernel_rfl
def CheckRel (L : Bag) (w : World) (i : Value) (wr : World) : Prop :=
  ∃ k : Nat, i = .int .i64 (k : Int) ∧ k ≤ L.length ∧ checkFrom 0 none L = checkFrom k (before L k) (L.drop k) ∧ Below w.heap.size w wr
set_option maxRecDepth 100000 in
theorem checkRel_step {L : Bag} {w wr : World} {k : Nat} (hk : k < L.length) (hc : checkFrom 0 none L = checkFrom k (before L k) (L.drop k)) (h : wrongBy (before L k) L[k] = 0) (hb : Below w.heap.size w wr) : CheckRel L w (.int .i64 ((k : Int) + 1)) wr :=
  ⟨k + 1, by simp, hk, hc.trans (check_next hk h), hb⟩
set_option maxRecDepth 100000 in
/-- A word laid apart, and read again behind what turns nothing that was there. -/
theorem box_at {wr w2 : World} {s : ByteArray} {c : Int} (hb : Below (wr.alloc (.cells #[.string s, .int .i64 c] 42)).heap.size (wr.alloc (.cells #[.string s, .int .i64 c] 42)) w2) :
    w2.cell? ⟨wr.heap.size, 0, none⟩ = some (.string s) ∧ w2.cell? ⟨wr.heap.size, 1, none⟩ = some (.int .i64 c) := by
  have hh := heap_alloc_new wr (.cells #[.string s, .int .i64 c] 42)
  have hlt := (Array.getElem?_eq_some_iff.1 hh).1
  exact ⟨(hb.cell hlt).trans (by rw [cell_of_row _ _ 0 _ 42 (0, 0) hh]; rfl), (hb.cell hlt).trans (by rw [cell_of_row _ _ 1 _ 42 (0, 0) hh]; rfl)⟩
set_option maxRecDepth 100000 in
set_option maxHeartbeats 2000000 in
theorem check_any (v : Value) (L : Bag) (w : World) (hv : wordsAt w v L) (hL : L.length ≤ 1000000) (hf : Fits L) :
    Calls Try.prog 19 #[v] w fun e w' => e = .returned (.tuple #[.int .i64 (checkOf L).1, .int .i64 (checkOf L).2]) ∧ Below w.heap.size w w' := by
  have HV := Lib.hid hv
  obtain ⟨a, cap, rfl, hc⟩ := hv
  have HC := Lib.hid hc
  clear hc
  go_enter Try.func19, Try.ntmps19
  go_wp2
  go_loopw [11] (fun i wr => CheckRel L w i wr) (fun i _ => L.length + 1 - (intOf i).toNat)
  case atStart => exact ⟨0, rfl, by omega, rfl, Below.refl _ _⟩
  case round =>
    obtain ⟨k, rfl, hk, hck, hb⟩ := hrel
    have HB := Lib.hid hb; have HK := Lib.hid hck
    clear hb hck
    by_cases hgo : k < L.length
    · have hkI : (k : Int) < (L.length : Int) := by omega
      obtain ⟨ad, rfl, _⟩ := HC.out k hgo
      obtain ⟨c0, c1⟩ := words_at HV.out HB.out hgo
      have HT := Lib.hid (hf.at hgo).1
      have hwr := HB.out.size
      obtain ⟨⟨t, tc⟩, ht⟩ : ∃ p, L[k] = p := ⟨_, rfl⟩
      rw [ht] at c0 c1 HT
      have HE := Lib.hid ht
      clear ht
      have cW := fun w => word_any t tc w HT.out
      obtain ⟨z, hz⟩ : ∃ z, wrongW t tc = z := ⟨_, rfl⟩
      rw [hz] at cW
      have HZ := Lib.hid hz
      clear hz
      have HBa : Hid (Below w.heap.size w (wr.alloc (.cells #[.string t, .int .i64 tc] 42))) := Lib.hid (HB.out.alloc HB.out.size _)
      go_wp2_with fail
      refine (cW _).mono ?_
      rintro e w2 ⟨rfl, hb2⟩
      have HB2 : Hid (Below w.heap.size w w2) := Lib.hid (HBa.out.trans (hb2.mono HBa.out.size))
      obtain ⟨x0, x1⟩ := box_at hb2
      clear hb2 c0 c1 cW HBa
      by_cases h0 : z = 0
      · subst h0
        have HZ2 : Hid (wrongW L[k].1 L[k].2 = 0) := Lib.hid (by rw [HE.out]; exact HZ.out)
        by_cases hk0 : 0 < k
        · have hd : decide (0 < k) = true := decide_eq_true hk0
          obtain ⟨j, hj⟩ : ∃ j, j + 1 = k := ⟨k - 1, by omega⟩
          have hjI : (k : Int) - 1 = (j : Int) := by omega
          have hjL : j < L.length := by omega
          have hwj : IntKind.i64.wrap (j : Int) = (j : Int) := IntWalk.i64_in _ (by omega)
          have hjl : (j : Int) < (L.length : Int) := by omega
          obtain ⟨y0, y1⟩ := words_at HV.out HB2.out hjL
          obtain ⟨⟨u, uc⟩, hu⟩ : ∃ p, L[j] = p := ⟨_, rfl⟩
          rw [hu] at y0 y1
          have HU := Lib.hid hu
          have HJ := Lib.hid hj
          clear hu hj hk0
          cases ha : ahead u t with
          | true =>
            have h1 : ∀ w, (binOp .leq 9 (.string t) (.string u)).run Try.prog w = .ok (.bool false) w := fun w => by
              rw [run_leq, op_less, ahead_asymm ha, text_ne (ahead_ne ha).symm]; rfl
            have HN : Hid (wrongBy (before L k) L[k] = 0) := Lib.hid (wrong_less HJ.out hjL HZ2.out (by rw [HU.out, HE.out]; exact ha))
            go_wp2
            go_quiet (fail)
            go_wp2
            go_roundw
            case rel => exact checkRel_step hgo HK.out HN.out (below_drewN' HB2.out _)
            case measure => simp [intOf]; omega
          | false =>
            have HN : Hid (wrongBy (before L k) L[k] = 6) := Lib.hid (wrong_more HJ.out hjL HZ2.out (by rw [HU.out, HE.out]; exact ha))
            have HS := Lib.hid (check_stop hgo HK.out HN.out (by decide))
            by_cases hut : u = t
            · subst hut
              have h1 : ∀ w, (binOp .leq 9 (.string u) (.string u)).run Try.prog w = .ok (.bool true) w := fun w => by
                rw [run_leq]; simp
              go_wp2
              go_quiet (fail)
              go_wp2
              go_ret2
              rw [HS.out]
              exact ⟨rfl, below_drewN' HB2.out _⟩
            · have h1 : ∀ w, (binOp .leq 9 (.string t) (.string u)).run Try.prog w = .ok (.bool true) w := fun w => by
                rw [run_leq, op_less, (ahead_total hut).resolve_left (by rw [ha]; simp)]; rfl
              go_wp2
              go_quiet (fail)
              go_wp2
              go_ret2
              rw [HS.out]
              exact ⟨rfl, below_drewN' HB2.out _⟩
        · have hd : decide (0 < k) = false := decide_eq_false hk0
          have HN : Hid (wrongBy (before L k) L[k] = 0) := Lib.hid (by
            obtain rfl : k = 0 := by omega
            exact wrong_first HZ2.out L)
          clear hk0
          go_wp2
          go_quiet (fail)
          go_wp2
          go_roundw
          case rel => exact checkRel_step hgo HK.out HN.out (below_drewN' HB2.out _)
          case measure => simp [intOf]; omega
      · have HS := Lib.hid (check_stop hgo HK.out (wrong_self (by rw [HE.out]; exact HZ.out) h0) h0)
        go_wp2
        go_ret2
        rw [HS.out]
        exact ⟨rfl, HB2.out⟩
    · have hkI : ¬ (k : Int) < (L.length : Int) := by omega
      have HV2 := Lib.hid (HV.out.below HB.out (Nat.le_refl _))
      have HS := Lib.hid (check_end (by omega) HK.out)
      have cW := weight_any _ L wr HV2.out hL hf
      obtain ⟨⟨q, b⟩, hq⟩ : ∃ r, weighOf L = r := ⟨_, rfl⟩
      rw [hq] at cW HS
      clear hq
      go_wp2_with fail
      refine cW.mono ?_
      rintro e w2 ⟨rfl, hb2⟩
      have HB2 : Hid (Below w.heap.size w w2) := Lib.hid (HB.out.trans (hb2.mono HB.out.size))
      clear hb2
      cases b with
      | true =>
        go_wp2
        go_ret2
        rw [HS.out]
        exact ⟨rfl, HB2.out⟩
      | false =>
        go_wp2
        go_ret2
        rw [HS.out]
        exact ⟨rfl, HB2.out⟩
end Go.Proofs.Ytbacbgpemaldbaa
