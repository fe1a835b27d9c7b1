/- SeqMerges: the law's walk. -/
import Derived.Test.YtdnokkmnpgdplaaLChg
import Derived.Test.YtdnokkmnpgdplaaStepArg
namespace Go.Proofs.Ytdnokkmnpgdplaa
open Go.RowKit Go.Maps

theorem step_some {w : World} {L : List Item} {a : Option Addr} {n c : Nat} (h : eltsAt itemE w (.slice a n c) L) {k : Nat} (hk : k < L.length) : ∃ ad, a = some ad := by
  obtain ⟨_, _, e, hc⟩ := h
  obtain ⟨ad, e2, _⟩ := hc k hk
  exact ⟨ad, (Value.slice.inj e).1.trans e2⟩
def MgRel (w : World) (K g B : Nat) (n : Nat) (x i : Value) (wr : World) : Prop :=
  ∃ (k : Nat) (X Y : List Int), i = .int .i64 (k : Int) ∧ k ≤ n ∧ SeqO wr K g X Y ∧ ownE intE wr B x X ∧ X.length ≤ 200 ∧ B ≤ wr.heap.size ∧ Below w.heap.size w wr
set_option maxRecDepth 100000 in
set_option maxHeartbeats 8000000 in
theorem seqMerges_walk (s : ByteArray) (v : Value) (w : World) (L : List Item) (hv : eltsAt itemE w v L) (hfit : ∀ q ∈ L, FitsI q) : Calls Try.prog 3 #[.string s, v] w fun e w' => e = .returned (.bool true) ∧ Below w.heap.size w w' := by
  have HV := Lib.hid hv; have HF := Lib.hid hfit
  obtain ⟨a, c, rfl, _⟩ := hv
  have cW := awake_any w
  clear hfit
  go_enter Try.func3, Try.ntmps3
  go_wp2_with fail
  refine cW.mono ?_
  rintro e w1 ⟨rfl, hb1⟩
  have HB1 := Lib.hid hb1
  clear cW hb1
  by_cases hl : 200 < s.size
  · go_wp2
    go_ret
    exact ⟨rfl, HB1.out⟩
  by_cases hn : 60 < L.length
  · go_wp2
    go_ret
    exact ⟨rfl, HB1.out⟩
  have cN := new_any s w1 (by omega)
  go_wp2_with fail
  refine cN.mono ?_
  rintro e w2 ⟨K, rfl, hs2, hK, hb2⟩
  have HK : Hid (w.heap.size ≤ K ∧ w.heap.size ≤ w1.heap.size) := Lib.hid ⟨Nat.le_trans HB1.out.size hK, HB1.out.size⟩
  have HB2 : Hid (Below w.heap.size w w2) := Lib.hid (HB1.out.trans (hb2.mono HB1.out.size))
  have HS2 := Lib.hid hs2
  have hX := syms_len s
  clear cN hK hb2 hs2
  obtain ⟨g, hg⟩ : ∃ g, w1.heap.size = g := ⟨_, rfl⟩
  rw [hg] at HS2 HK
  clear hg
  have cY := rsym_any s w2 (by omega)
  go_wp2_with fail
  refine cY.mono ?_
  rintro e w3 ⟨x3, rfl, ho3, hb3⟩
  have HO3 := Lib.hid ho3
  have HS3 := Lib.hid (HS2.out.below hb3)
  have HB3 : Hid (Below w.heap.size w w3) := Lib.hid (HB2.out.trans (hb3.mono HB2.out.size))
  have HBS : Hid (w2.heap.size ≤ w3.heap.size) := Lib.hid hb3.size
  obtain ⟨B, hB⟩ : ∃ B, w2.heap.size = B := ⟨_, rfl⟩
  have HKB : Hid (K < B ∧ g < B) := Lib.hid (by rw [← hB]; exact ⟨HS2.out.ltK, HS2.out.ltg⟩)
  rw [hB] at HO3 HBS
  clear cY ho3 hb3 hB HB1 HB2 HS2
  go_wp2
  go_loopw [6, 7] (fun x i wr => MgRel w K g B L.length x i wr) (fun _ i _ => L.length - (intOf i).toNat)
  case atStart => exact ⟨0, syms s, [], rfl, Nat.zero_le _, HS3.out, HO3.out, by omega, HBS.out, HB3.out⟩
  case round =>
    obtain ⟨k, X, Y, rfl, hk, hsq, hox, hxl, hbs, hbel⟩ := hrel
    have HS := Lib.hid hsq; have HO := Lib.hid hox; have HB := Lib.hid hbel; have HBZ := Lib.hid hbs
    have HFX := Lib.hid hsq.fits
    clear hsq hox hbel hbs HS3 HO3 HB3 HBS
    by_cases hgo : k < L.length
    · obtain ⟨ad, rfl⟩ := step_some HV.out hgo
      obtain ⟨c0, c1, c2⟩ := steps_at HV.out HB.out hgo
      obtain ⟨f1, f2, f3⟩ := HF.out L[k] (List.getElem_mem _)
      obtain ⟨p, hp⟩ : ∃ p, L[k].1 = p := ⟨_, rfl⟩
      obtain ⟨q, hq⟩ : ∃ q, L[k].2.1 = q := ⟨_, rfl⟩
      obtain ⟨t, ht⟩ : ∃ t, L[k].2.2 = t := ⟨_, rfl⟩
      have HST : Hid (∀ W, Below w.heap.size w W → W.cell? (ad.add (k * 3)) = some (.int .i64 p) ∧ W.cell? ⟨(ad.add (k * 3)).block, (ad.add (k * 3)).off + 1, none⟩ = some (.int .i64 q) ∧ W.cell? ⟨(ad.add (k * 3)).block, (ad.add (k * 3)).off + 2, none⟩ = some (.int .i64 t)) := Lib.hid fun W hW => by
        have := steps_at HV.out hW hgo
        rw [hp, hq, ht] at this; exact this
      rw [hp] at c0 f1
      rw [hq] at c1 f2
      rw [ht] at c2 f3
      clear hp hq ht
      have hkI : (k : Int) < (L.length : Int) := by omega
      have cM := merge_any K g X Y p q t wr.drew ⟨HS.out.box, HS.out.row, HS.out.fits, HS.out.few⟩ ⟨f1, f2⟩ f3
      go_wp2_with fail
      go_region_held3 (fun w' => w'.cell? (ad.add (k * 3)) = some (.int .i64 p) ∧ w'.cell? ⟨(ad.add (k * 3)).block, (ad.add (k * 3)).off + 1, none⟩ = some (.int .i64 q) ∧ w'.cell? ⟨(ad.add (k * 3)).block, (ad.add (k * 3)).off + 2, none⟩ = some (.int .i64 t)) (first | exact ⟨c0, c1, c2⟩ | exact ⟨d0, d1, d2⟩) (first | (go_at_call 10; refine cM.mono ?_; rintro e w5 ⟨v5, L5, Y5, rfl, hs5, ho5, hc5, hl5, hk5⟩; have HK5 := Lib.hid (Kept.undrew hk5); have HS5 := Lib.hid hs5; have HO5 := Lib.hid ho5; have HC5 := Lib.hid hc5; have HB5 : Hid (Below w.heap.size w w5) := Lib.hid (Below.kept HB.out HK5.out (fun i e => by have := HK.out; omega) HB.out.size); obtain ⟨d0, d1, d2⟩ := HST.out _ HB5.out; clear hs5 ho5 hc5 hl5 hk5))
      have HX5 : Hid (ownE intE w5 B u6 X) := Lib.hid (HO.out.kept fun gx hgx => HK5.out.block gx (HO.out.lt gx hgx).2 (by have := (HO.out.lt gx hgx).1; have := HKB.out; omega))
      have HZ5 : Hid (B ≤ w5.heap.size) := Lib.hid (Nat.le_trans HBZ.out HK5.out.size)
      clear cM c0 c1 c2
      have cR := rmerge_any u6 X p q t w5.drew HX5.out.reads (by omega)
      go_wp2_with fail
      go_region_held3 (fun w' => w'.cell? (ad.add (k * 3)) = some (.int .i64 p) ∧ w'.cell? ⟨(ad.add (k * 3)).block, (ad.add (k * 3)).off + 1, none⟩ = some (.int .i64 q) ∧ w'.cell? ⟨(ad.add (k * 3)).block, (ad.add (k * 3)).off + 2, none⟩ = some (.int .i64 t)) (first | exact ⟨d0, d1, d2⟩ | exact ⟨e0, e1, e2⟩) (first | (go_at_call 11; refine cR.mono ?_; rintro e w6 ⟨r6, rfl, ho6, hb6⟩; have HB56 : Hid (Below w5.heap.size w5 w6) := Lib.hid ⟨hb6.os, hb6.tape, hb6.output, hb6.size, hb6.block⟩; have HO6 : Hid (ownE intE w6 w5.heap.size r6 (mergeL (p, q) t X)) := Lib.hid ho6; have HB6 : Hid (Below w.heap.size w w6) := Lib.hid (HB5.out.trans (HB56.out.mono HB5.out.size)); obtain ⟨e0, e1, e2⟩ := HST.out _ HB6.out; clear ho6 hb6))
      have hml := merge_len (p := (p, q)) (s := t) X
      obtain ⟨X', hX'⟩ : ∃ X', mergeL (p, q) t X = X' := ⟨_, rfl⟩
      obtain ⟨nt, hnt⟩ : ∃ nt, timesL (p, q) X = nt := ⟨_, rfl⟩
      rw [hX'] at HS5 HC5 HO6 hml
      rw [hnt] at hml
      have HS6 := Lib.hid (HS5.out.below HB56.out)
      have HFX' := Lib.hid HS5.out.fits
      have cC := lchanges_any v5 u6 r6 L5 X X' w6 (HO5.out.reads.below HB56.out (Nat.le_refl _)) (HX5.out.reads.below HB56.out (Nat.le_refl _)) HO6.out.reads (by omega) (by omega) HC5.out HFX.out HFX'.out
      clear d0 d1 d2 e0 e1 e2 cR hX'
      rw [hnt]
      clear hnt
      go_wp2_with fail
      refine cC.mono ?_
      rintro e w7 ⟨rfl, hb7⟩
      have HS7 := Lib.hid (HS6.out.below hb7)
      have HO7 := Lib.hid (HO6.out.below hb7)
      have HB7 : Hid (Below w.heap.size w w7) := Lib.hid (HB6.out.trans (hb7.mono HB6.out.size))
      have HZ7 : Hid (B ≤ w7.heap.size ∧ B ≤ w5.heap.size) := Lib.hid ⟨Nat.le_trans HZ5.out (Nat.le_trans HB56.out.size hb7.size), HZ5.out⟩
      obtain ⟨ar, cr, rfl, _⟩ := HO7.out.form
      clear cC hb7
      have cL := len_any K g X' Y5 w7 HS7.out
      go_wp2_with fail
      refine cL.mono ?_
      rintro e w7 ⟨rfl, rfl⟩
      clear cL
      have cY := symbols_any K g X' Y5 w7 HS7.out
      go_wp2_with fail
      refine cY.mono ?_
      rintro e w8 ⟨r8, rfl, ho8, hb8⟩
      have cI := ints_any r8 _ X' w8 ho8.reads (HO7.out.reads.below hb8 (Nat.le_refl _)) (by omega)
      have HS8 := Lib.hid (HS7.out.below hb8)
      have HO8 : Hid (ownE intE w8 B (.slice ar X'.length cr) X') := Lib.hid ((HO7.out.below hb8).mono HZ7.out.2)
      have HB8 : Hid (Below w.heap.size w w8) := Lib.hid (HB7.out.trans (hb8.mono HB7.out.size))
      have HZ8 : Hid (B ≤ w8.heap.size) := Lib.hid (Nat.le_trans HZ7.out.1 hb8.size)
      clear cY ho8 hb8
      go_wp2_with fail
      refine cI.mono ?_
      rintro e w9 ⟨rfl, nz, rfl⟩
      go_wp2
      go_roundw
      case measure => simp [intOf]; omega
      case rel => exact ⟨k + 1, X', Y5, by simp, hgo, ⟨HS8.out.box, HS8.out.row, HS8.out.fits, HS8.out.few⟩, HO8.out.drewN _, by omega, HZ8.out, below_drewN' HB8.out _⟩
    · have cP := pairs_any K g X Y wr HS.out
      go_wp2_with fail
      refine cP.mono ?_
      rintro e w3 ⟨v3, L3, rfl, ho3, hc3, hl3, hb3⟩
      have HS3 := Lib.hid (HS.out.below hb3)
      have HO3 := Lib.hid (HO.out.below hb3)
      have HB3 : Hid (Below w.heap.size w w3) := Lib.hid (HB.out.trans (hb3.mono HB.out.size))
      have cC := lchanges_any v3 (.slice none 0 0) u6 L3 [] X w3 ho3.reads (eltsAt.nil w3) HO3.out.reads (by simp) (by omega) (changes_none_of hc3) (fun x hx => by simp at hx) HFX.out
      clear cP ho3 hc3 hl3 hb3
      go_wp2_with fail
      refine cC.mono ?_
      rintro e w4 ⟨rfl, hb4⟩
      have HS4 := Lib.hid (HS3.out.below hb4)
      have HO4 := Lib.hid (HO3.out.below hb4)
      have HB4 : Hid (Below w.heap.size w w4) := Lib.hid (HB3.out.trans (hb4.mono HB3.out.size))
      have cY := symbols_any K g X Y w4 HS4.out
      clear cC hb4
      go_wp2_with fail
      refine cY.mono ?_
      rintro e w5 ⟨r5, rfl, ho5, hb5⟩
      have cI := ints_any r5 u6 X w5 ho5.reads (HO4.out.reads.below hb5 (Nat.le_refl _)) (by omega)
      have HB5 : Hid (Below w.heap.size w w5) := Lib.hid (HB4.out.trans (hb5.mono HB4.out.size))
      clear cY ho5 hb5
      go_wp2_with fail
      refine cI.mono ?_
      rintro e w6 ⟨rfl, nz, rfl⟩
      go_wp2
      go_ret
      exact ⟨rfl, below_drewN' HB5.out _⟩
end Go.Proofs.Ytdnokkmnpgdplaa
