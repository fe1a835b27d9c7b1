/- SeqSpells: the law's walk. -/
import Derived.Test.YtdnokkmnpgdplaaRun
namespace Go.Proofs.Ytdnokkmnpgdplaa
open Go.RowKit Go.Maps

def SpRel (w : World) (X : List Int) (L : List (Int × Int)) (out i : Value) (wr : World) : Prop :=
  ∃ (k : Nat) (z : Int), i = .int .i64 z ∧ z = (k : Int) - 1 ∧ k ≤ L.length ∧ ownE intE wr w.heap.size out (runX X L k) ∧ Below w.heap.size w wr
def NxRel (w3 : World) (s : Int) (p : Int × Int) (Z : List Int) (nx i : Value) (wr : World) : Prop :=
  ∃ m : Nat, i = .int .i64 (m : Int) ∧ m ≤ Z.length ∧ ownE intE wr w3.heap.size nx (spell s p (Z.take m)) ∧ Below w3.heap.size w3 wr
theorem nx_step {w3 wr w5 : World} {s : Int} {p : Int × Int} {Z : List Int} {nx r : Value} {m : Nat} {o : Obj} {T : List Int} (hm : m < Z.length) (hT : (if Z[m] = s then [p.1, p.2] else [Z[m]]) = T) (hb : Below w3.heap.size w3 wr) (ho : ownE intE wr w3.heap.size nx (spell s p (Z.take m)))
    (h5 : ownE intE w5 w3.heap.size r (spell s p (Z.take m) ++ T)) (hg : (wr.alloc o).grownBy w5 nx.ownBlock) : NxRel w3 s p Z r (.int .i64 ((m : Int) + 1)) w5 := by
  have hs := hb.size
  refine ⟨m + 1, by simp, hm, ?_, (hb.alloc hs o).grown hg (by rw [World.size_alloc]; omega) fun g e => (ho.lt g e).1⟩
  rw [ptake_snoc hm, spell_snoc, hT]
  exact h5
theorem grown_undrew {a b : World} {row : Option Nat} (h : a.drew.grownBy b row) : a.grownBy b row := ⟨h.os, h.tape, h.output, h.size, h.block⟩
set_option maxRecDepth 100000 in
set_option maxHeartbeats 8000000 in
theorem seqSpells_walk (s : ByteArray) (v : Value) (w : World) (L : List (Int × Int)) (hv : eltsAt pairE w v L) (hfit : FitsP L) : Calls Try.prog 5 #[.string s, v] w fun e w' => e = .returned (.bool true) ∧ Below w.heap.size w w' := by
  have HV := Lib.hid hv; have HF := Lib.hid hfit
  obtain ⟨a, c, rfl, _⟩ := hv
  have cW := awake_any w
  clear hfit
  go_enter Try.func5, Try.ntmps5
  go_wp2_with fail
  refine cW.mono ?_
  rintro e w1 ⟨rfl, hb1⟩
  have HB1 := Lib.hid hb1
  clear cW hb1
  by_cases hl : 200 < s.size
  · go_wp2
    go_ret
    exact ⟨rfl, HB1.out⟩
  by_cases hn : 40 < L.length
  · go_wp2
    go_ret
    exact ⟨rfl, HB1.out⟩
  have cN := new_any s w1 (by omega)
  go_wp2_with fail
  refine cN.mono ?_
  rintro e w2 ⟨K, rfl, hs2, hK, hb2⟩
  have HK : Hid (w.heap.size ≤ K ∧ w.heap.size ≤ w1.heap.size) := Lib.hid ⟨Nat.le_trans HB1.out.size hK, HB1.out.size⟩
  have HB2 : Hid (Below w.heap.size w w2) := Lib.hid (HB1.out.trans (hb2.mono HB1.out.size))
  have HS2 := Lib.hid hs2
  have HR : Hid (∀ x ∈ syms s, 0 ≤ x ∧ x < 256) := Lib.hid fun x hx => syms_range hx
  have hX := syms_len s
  clear cN hK hb2 hs2
  obtain ⟨g, hg⟩ : ∃ g, w1.heap.size = g := ⟨_, rfl⟩
  rw [hg] at HS2 HK
  clear hg
  go_wp2
  go_loopw [6] (fun i wr => RunRel w K g (syms s) L i wr) (fun i _ => L.length - (intOf i).toNat)
  case atStart => exact ⟨0, [], rfl, Nat.zero_le _, HS2.out, HB2.out⟩
  case round =>
    obtain ⟨k, Y, rfl, hk, hsq, hbel⟩ := hrel
    have HS := Lib.hid hsq; have HB := Lib.hid hbel
    clear hsq hbel
    by_cases hgo : k < L.length
    · obtain ⟨ad, rfl⟩ := pair_some HV.out hgo
      obtain ⟨c0, c1⟩ := pairs_at HV.out HB.out hgo
      have hp := HF.out L[k] (List.getElem_mem _)
      have hw1 : IntKind.i64.wrap (1000 + (k : Int)) = 1000 + (k : Int) := IntWalk.i64_in _ (by omega)
      have cM := merge_any K g _ Y L[k].1 L[k].2 (1000 + (k : Int)) wr HS.out hp (by omega)
      have HX : Hid (mergeL (L[k].1, L[k].2) (1000 + (k : Int)) (runX (syms s) L k) = runX (syms s) L (k + 1)) := Lib.hid (runX_succ hgo).symm
      go_wp2_with fail
      refine cM.mono ?_
      rintro e w3 ⟨v3, L3, Y3, rfl, hs3, _, _, _, hk3⟩
      have HS3 := Lib.hid (HX.out ▸ hs3)
      have HB3 : Hid (Below w.heap.size w w3) := Lib.hid (Below.kept HB.out hk3 (fun i e => by have := HK.out; omega) HB.out.size)
      clear cM hs3 hk3 c0 c1
      go_wp2
      go_roundw
      case measure => simp [intOf]; omega
      case rel => exact ⟨k + 1, Y3, by simp, hgo, HS3.out, HB3.out⟩
    · obtain rfl : k = L.length := by omega
      have cY := symbols_any K g _ Y wr HS.out
      have hw1 : IntKind.i64.wrap ((L.length : Int) - 1) = (L.length : Int) - 1 := IntWalk.i64_in _ (by omega)
      go_wp2_with fail
      refine cY.mono ?_
      rintro e w3 ⟨r3, rfl, ho3, hb3⟩
      have HO3 : Hid (ownE intE w3 w.heap.size r3 (runX (syms s) L L.length)) := Lib.hid (ho3.mono HB.out.size)
      have HB3 : Hid (Below w.heap.size w w3) := Lib.hid (HB.out.trans (hb3.mono HB.out.size))
      clear cY ho3 hb3 HS HB HS2 HB2 HB1
      go_wp2
      go_loopw [7, 8] (fun o i wr => SpRel w (syms s) L o i wr) (fun _ i _ => (intOf i + 1).toNat)
      case atStart => exact ⟨L.length, _, rfl, rfl, Nat.le_refl _, HO3.out, HB3.out⟩
      case round =>
        obtain ⟨k, z, rfl, hz, hk, ho, hbel⟩ := hrel
        have HO := Lib.hid ho; have HB := Lib.hid hbel
        obtain ⟨ao, co, rfl, _⟩ := ho.form
        clear ho hbel
        have hlenk := runX_len (syms s) L k
        cases k with
        | zero =>
          obtain rfl : z = -1 := by omega
          clear hz
          have cM0 := merge_nil 0 0 0 wr
          go_wp2_with fail
          refine cM0.mono ?_
          rintro e w4 ⟨rfl, hb4⟩
          have HB4 : Hid (Below w.heap.size w w4) := Lib.hid (HB.out.trans (hb4.mono HB.out.size))
          have HO4 := Lib.hid (HO.out.below hb4)
          clear cM0 hb4
          go_wp2
          go_loopw [14, 15] (fun h i wr => (∃ b : Bool, h = .bool b) ∧ (∃ k : Nat, i = .int .i64 (k : Int) ∧ k ≤ L.length) ∧ wr = w4) (fun _ i _ => L.length - (intOf i).toNat)
          case atStart => exact ⟨⟨true, rfl⟩, ⟨0, rfl, Nat.zero_le _⟩, rfl⟩
          case round =>
            obtain ⟨⟨b, rfl⟩, ⟨k, rfl, hk⟩, rfl⟩ := hrel
            by_cases hgo : k < L.length
            · obtain ⟨ad, rfl⟩ := pair_some HV.out hgo
              obtain ⟨c0, c1⟩ := pairs_at HV.out HB4.out hgo
              have hw1 : IntKind.i64.wrap (1000 + (k : Int)) = 1000 + (k : Int) := IntWalk.i64_in _ (by omega)
              cases b with
              | false =>
                go_wp2
                go_roundw
                case measure => simp [intOf]; omega
                case rel => exact ⟨⟨_, rfl⟩, ⟨k + 1, by simp, hgo⟩, trivial⟩
              | true =>
                by_cases ha : L[k].1 < 1000 + (k : Int)
                · go_wp2
                  go_roundw
                  case measure => simp [intOf]; omega
                  case rel => exact ⟨⟨_, rfl⟩, ⟨k + 1, by simp, hgo⟩, trivial⟩
                · go_wp2
                  go_roundw
                  case measure => simp [intOf]; omega
                  case rel => exact ⟨⟨_, rfl⟩, ⟨k + 1, by simp, hgo⟩, trivial⟩
            · have cL := len_nil' wr
              have cS := symbols_nil wr
              have cP := pairs_nil wr
              cases b with
              | false =>
                go_wp2_with (first | (go_at_call 15; refine cS.mono ?_; rintro e wz ⟨rfl, rfl⟩) | (go_at_call 13; refine cL.mono ?_; rintro e wz ⟨rfl, rfl⟩) | (go_at_call 16; refine cP.mono ?_; rintro e wz ⟨rfl, rfl⟩))
                go_ret
                exact ⟨rfl, HB4.out⟩
              | true =>
                have cY := rsym_any s wr (by omega)
                go_wp2_with fail
                refine cY.mono ?_
                rintro e w6 ⟨r6, rfl, ho6, hb6⟩
                have HB6 : Hid (Below w.heap.size w w6) := Lib.hid (HB4.out.trans (hb6.mono HB4.out.size))
                have cI := ints_any _ r6 (syms s) w6 (HO4.out.below hb6).reads ho6.reads (by omega)
                clear cY ho6 hb6 cL cS cP
                go_wp2_with fail
                refine cI.mono ?_
                rintro e w7 ⟨rfl, n, rfl⟩
                have cL := len_nil' (w6.drewN n)
                have cS := symbols_nil (w6.drewN n)
                have cP := pairs_nil (w6.drewN n)
                go_wp2_with (first | (go_at_call 15; refine cS.mono ?_; rintro e wz ⟨rfl, rfl⟩) | (go_at_call 13; refine cL.mono ?_; rintro e wz ⟨rfl, rfl⟩) | (go_at_call 16; refine cP.mono ?_; rintro e wz ⟨rfl, rfl⟩))
                go_ret
                exact ⟨rfl, below_drewN' HB6.out _⟩
        | succ k =>
          obtain rfl : z = (k : Int) := by omega
          clear hz
          obtain ⟨wo, hwo⟩ : ∃ wo, wo = wr := ⟨_, rfl⟩
          subst hwo
          have hgk : k < L.length := by omega
          obtain ⟨ad, rfl⟩ := pair_some HV.out hgk
          obtain ⟨Z, hZ⟩ : ∃ Z, runX (syms s) L (k + 1) = Z := ⟨_, rfl⟩
          have HSP : Hid (spell (1000 + (k : Int)) L[k] Z = runX (syms s) L k) := Lib.hid (by rw [← hZ]; exact runX_spell HR.out hgk)
          rw [hZ] at HO hlenk
          rw [hZ]
          have hlk := runX_len (syms s) L k
          have hw1 : IntKind.i64.wrap (1000 + (k : Int)) = 1000 + (k : Int) := IntWalk.i64_in _ (by omega)
          go_wp2
          go_loopw [9, 10] (fun nx i wr2 => NxRel wo (1000 + (k : Int)) L[k] Z nx i wr2) (fun _ i _ => Z.length - (intOf i).toNat)
          case atStart => exact ⟨0, rfl, Nat.zero_le _, ownE.nil wo _, Below.refl _ wo⟩
          case round =>
            obtain ⟨m, rfl, hm, hno, hbm⟩ := hrel
            have HN := Lib.hid hno; have HBM := Lib.hid hbm
            have HBW : Hid (Below w.heap.size w wr) := Lib.hid (HB.out.trans (hbm.mono HB.out.size))
            have HE : Hid (eltsAt intE wr (.slice ao Z.length co) Z) := Lib.hid (HO.out.reads.below hbm (Nat.le_refl _))
            have hsp := spell_len (1000 + (k : Int)) L[k] (Z.take m)
            have htl : (Z.take m).length ≤ m := by simp; omega
            clear hno hbm
            by_cases hgo : m < Z.length
            · obtain ⟨ad2, rfl, cz⟩ := int_at HE.out hgo
              by_cases he : Z[m] = 1000 + (k : Int)
              · obtain ⟨c0, c1⟩ := pairs_at HV.out HBW.out hgk
                obtain ⟨d0, d1⟩ := pairs_at HV.out (HBW.out.alloc (Nat.le_trans HB.out.size HBM.out.size) (.cells #[.int .i64 L[k].1, .int .i64 L[k].2] 3)) hgk
                have HA : Hid (ownE intE (wr.alloc (.cells #[.int .i64 L[k].1, .int .i64 L[k].2] 3)).drew wo.heap.size u9 (spell (1000 + (k : Int)) L[k] (Z.take m))) := Lib.hid (HN.out.alloc _).drew
                have HX : Hid (eltsAt intE (wr.alloc (.cells #[.int .i64 L[k].1, .int .i64 L[k].2] 3)).drew (.slice (some ⟨wr.heap.size, 0, none⟩) 2 2) [L[k].1, L[k].2]) := Lib.hid ((two_elt wr L[k].1 L[k].2).drew 1)
                have HZ : Hid (wo.heap.size ≤ (wr.alloc (.cells #[.int .i64 L[k].1, .int .i64 L[k].2] 3)).drew.heap.size) := Lib.hid (by show _ ≤ (wr.alloc _).heap.size; rw [World.size_alloc]; have := HBM.out.size; omega)
                go_wp2_with fail
                go_region_held3 (fun w' => w'.cell? (ad.add (k * 2)) = some (.int .i64 L[k].1) ∧ w'.cell? ⟨(ad.add (k * 2)).block, (ad.add (k * 2)).off + 1, none⟩ = some (.int .i64 L[k].2)) (first | exact ⟨c0, c1⟩ | exact ⟨d0, d1⟩ | exact ⟨f0, f1⟩) (first | (refine step_append_elts intE rfl (.tmp 64) (.tmp 75) rfl wo.heap.size u9 _ (spell (1000 + (k : Int)) L[k] (Z.take m)) [L[k].1, L[k].2] rfl rfl HA.out HX.out (someNone _ _ _) (by simp; omega) HZ.out ?_; intro r5 w5 hown5 hg5 _; have HO5 := Lib.hid hown5; have HG5 := Lib.hid hg5; obtain ⟨f0, f1⟩ := pairs_at HV.out ((HBW.out.alloc (Nat.le_trans HB.out.size HBM.out.size) (.cells #[.int .i64 L[k].1, .int .i64 L[k].2] 3)).grown (grown_undrew hg5) (Nat.le_trans HB.out.size HZ.out) (fun g e => Nat.le_trans HB.out.size (HN.out.lt g e).1)) hgk; clear hown5 hg5))
                all_goals go_wp2
                all_goals go_roundw
                case measure => simp [intOf]; omega
                case rel => exact nx_step hgo (if_pos he) HBM.out HN.out HO5.out (grown_undrew HG5.out)
              · have HA : Hid (ownE intE (wr.alloc (.cells #[.int .i64 Z[m]] 3)) wo.heap.size u9 (spell (1000 + (k : Int)) L[k] (Z.take m))) := Lib.hid (HN.out.alloc _)
                have HX : Hid (eltsAt intE (wr.alloc (.cells #[.int .i64 Z[m]] 3)) (.slice (some ⟨wr.heap.size, 0, none⟩) 1 1) [Z[m]]) := Lib.hid (one_elt intE wr Z[m])
                have HZ : Hid (wo.heap.size ≤ (wr.alloc (.cells #[.int .i64 Z[m]] 3)).heap.size) := Lib.hid (by rw [World.size_alloc]; have := HBM.out.size; omega)
                go_wp2_with (at_builtin; refine wpList_append_elts intE rfl (.tmp 77) (.tmp 82) rfl wo.heap.size u9 _ (spell (1000 + (k : Int)) L[k] (Z.take m)) [Z[m]] rfl rfl HA.out HX.out (someNone _ _ _) (by simp; omega) HZ.out ?_; intro r5 w5 hown5 hg5 _; have HO5 := Lib.hid hown5; have HG5 := Lib.hid hg5; clear hown5 hg5)
                go_roundw
                case measure => simp [intOf]; omega
                case rel => exact nx_step hgo (if_neg he) HBM.out HN.out HO5.out HG5.out
            · have HT : Hid (ownE intE wr w.heap.size u9 (runX (syms s) L k)) := Lib.hid (by have := HN.out; rw [List.take_of_length_le (by omega), HSP.out] at this; exact this.mono HB.out.size)
              obtain ⟨an, cn, rfl, _⟩ := HT.out.form
              have hnot : ¬ (400 : Int) < ((runX (syms s) L k).length : Int) := by omega
              go_wp2
              go_roundw
              case measure => simp [intOf]
              case rel => exact ⟨k, _, rfl, rfl, by omega, HT.out, HBW.out⟩
end Go.Proofs.Ytdnokkmnpgdplaa
