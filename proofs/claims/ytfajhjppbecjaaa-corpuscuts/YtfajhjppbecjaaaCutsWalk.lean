/- The walk of CorpusCuts. -/
import Derived.Test.YtfajhjppbecjaaaAwake
import Derived.Test.YtfajhjppbecjaaaArgs16
namespace Go.Proofs.Ytfajhjppbecjaaa
open Go.RowKit

/-- s[f:t], and s[f:]. -/
theorem cut_part (s : ByteArray) (f t : Nat) (T : Int) (hT : T = (t : Int)) (h1 : f ≤ t) (h2 : t ≤ s.size) : ∃ y : List UInt8, (∀ w, (Instr.slice 9 (.string s) (some (.int .i64 (f : Int))) (some (.int .i64 T)) none).run Try.prog w = .ok (tx y) w) ∧
    (bs s).take t = (bs s).take f ++ y := by
  subst hT
  refine ⟨((bs s).drop f).take (t - f), fun w => ?_, take_mid s h1⟩
  rw [run_slice_string w 9 s .i64 .i64 f t Try.underlying9 (by omega) (by omega) (by omega)]
  simp only [Int.toNat_natCast]
  rw [extract_bs]; rfl
theorem cut_rest (s : ByteArray) (f : Nat) (h1 : f ≤ s.size) : ∃ y : List UInt8, (∀ w, (Instr.slice 9 (.string s) (some (.int .i64 (f : Int))) none none).run Try.prog w = .ok (tx y) w) ∧
    bs s = (bs s).take f ++ y := by
  refine ⟨((bs s).drop f).take (s.size - f), fun w => ?_, ?_⟩
  · rw [run_slice_string_l w 9 s Try.underlying9 .i64 f (by omega) (by omega)]
    simp only [Int.toNat_natCast]
    rw [extract_bs]; rfl
  · have := take_mid s h1
    rwa [List.take_of_length_le (by rw [bs_size]; exact Nat.le_refl _)] at this
def CutRel (s : ByteArray) (Z : List Int) (w : World) (l f i : Value) (wr : World) : Prop :=
  ∃ (k m : Nat) (L : List (List UInt8)), i = .int .i64 (k : Int) ∧ f = .int .i64 (m : Int) ∧ m ≤ s.size ∧ k ≤ Z.length ∧ L.length = k ∧ L.flatten = (bs s).take m ∧ ownS wr w.heap.size l L ∧ Below w.heap.size w wr
theorem spec_whole {n : Int} {t : List UInt8} {W : List (List UInt8)} (h : SpecOf n 0 t W 0) : W = wordsL t := by
  rcases h with ⟨_, _, h⟩ | ⟨lim, _, _, _, ⟨_, _, ⟨_, h⟩ | ⟨h, _⟩⟩ | ⟨_, _, h, _⟩⟩
  · cases h
  · exact h
  · exact absurd rfl h
  · cases h
theorem cutRel_step {s : ByteArray} {Z : List Int} {w wr w2 : World} {k f t : Nat} {u r : Value} {y : List UInt8} {L : List (List UInt8)} (hk : k < Z.length) (ht : t ≤ s.size) (hy : (bs s).take t = (bs s).take f ++ y)
    (hl : L.length = k) (hL : L.flatten = (bs s).take f) (hu : ownS wr w.heap.size u L) (hb : Below w.heap.size w wr) (hr : w2.ownsRow w.heap.size 9 1 r (L.length + 1) (scells L ++ [tx y])) (hg : wr.grownBy w2 u.ownBlock) :
    CutRel s Z w r (.int .i64 (t : Int)) (.int .i64 ((k : Int) + 1)) w2 :=
  ⟨k + 1, t, L ++ [y], by simp, rfl, ht, hk, by simp [hl], by rw [List.flatten_append, hL, hy]; simp, ownS.app (B := [y]) hr rfl, hb.grown hg hb.size fun g hg => (hu.lt g hg).1⟩
theorem ahead_neg (P : List (List UInt8)) : ahead P (-1) = P := by unfold ahead; simp
theorem failing_neg (P : List (List UInt8)) : failing P (-1) = 0 := by unfold failing; simp
theorem own_caps {w : World} {b : Nat} {r : Value} {A : List (List UInt8)} (h : ownS w b r A) : ∀ a n c, r = .slice a n c → n ≤ c := by
  intro a n c e
  obtain ⟨a', c', e', hl⟩ := h.form3
  rw [e] at e'; cases e'; exact hl
/-- What two readings of the same words tell is the same. -/
theorem read_same {W L L' : List (List UInt8)} {c : Nat} (h : (c = 0 ∧ L = W) ∨ (c ≠ 0 ∧ L = [])) (h' : (c = 0 ∧ L' = W) ∨ (c ≠ 0 ∧ L' = [])) : L = L' := by
  rcases h with ⟨h, rfl⟩ | ⟨h, rfl⟩ <;> rcases h' with ⟨h', rfl⟩ | ⟨h', rfl⟩
  · rfl
  · exact absurd h h'
  · exact absurd h' h
  · rfl
set_option maxRecDepth 100000 in
set_option maxHeartbeats 1000000 in
theorem corpusCuts_walk (a0 : ByteArray) (x : Value) (n : Int) (Z : List Int) (w : World) (hx : u16sAt w x Z) (hZ : Z.length ≤ maxLen) (w0 : a0.size ≤ maxLen) (h0 : -9223372036854775808 ≤ n) (h1 : n ≤ 9223372036854775807) :
    Calls Try.prog 4 #[.string a0, x, .int .i64 n] w fun e w' => e = .returned (.bool true) ∧ Below w.heap.size w w' := by
  obtain ⟨j0, hj, hy0, hy1, hy2⟩ := info_parts Try.info9
  unfold maxLen at w0 hZ
  obtain ⟨aZ, cZ, rfl, hcZ⟩ := hx
  have HZ := Lib.hid hcZ; clear hcZ
  by_cases h : 3000 < a0.size
  · go_enter Try.func4, Try.ntmps4
    go_wp2_with (go_at_call 6; refine (awake_any _).mono ?_; rintro e w1 ⟨rfl, hb⟩)
    go_ret
    exact ⟨rfl, hb⟩
  · by_cases h2 : 100 < Z.length
    · go_enter Try.func4, Try.ntmps4
      go_wp2_with (go_at_call 6; refine (awake_any _).mono ?_; rintro e w1 ⟨rfl, hb⟩)
      go_ret
      exact ⟨rfl, hb⟩
    · have hsI : ¬ (3000 : Int) < (a0.size : Int) := by omega
      have hzI : ¬ (100 : Int) < (Z.length : Int) := by omega
      go_enter Try.func4, Try.ntmps4
      go_wp2_with fail
      refine (awake_any _).mono ?_
      rintro e w1 ⟨rfl, hb1⟩
      have z1 := hb1.size
      go_wp2
      go_loopw [7, 8, 9] (fun l f i wr => CutRel a0 Z w l f i wr) (fun _ _ i _ => Z.length + 1 - (intOf i).toNat)
      case atStart => exact ⟨0, 0, [], rfl, rfl, by omega, by omega, rfl, rfl, World.ownsRow_nil _ _ _ _, hb1⟩
      case round =>
        obtain ⟨k, f, L, rfl, rfl, hf, hk, hl, hL, hown, hbel⟩ := hrel
        have HO := Lib.hid hown; have HLF := Lib.hid hL; have HLL := Lib.hid hl
        have hLz : L.length ≤ 100 := by omega
        clear hown hL hl
        have hzr := hbel.size
        obtain ⟨a1, cap1, rfl⟩ := HO.out.form2
        by_cases hgo : k < Z.length ∧ f < a0.size
        · obtain ⟨hk1, hf1⟩ := hgo
          have hkI : (k : Int) < (Z.length : Int) := by omega
          have hfI : (f : Int) < (a0.size : Int) := by omega
          obtain ⟨ad, rfl, hadb, hcell, q0, q1⟩ := HZ.out k hk1
          have hcell2 : wr.cell? (ad.add k) = some (.int .u16 Z[k]) := by
            rw [← hcell]
            have hb : (ad.add k).block = ad.block := by unfold Addr.add; split <;> rfl
            exact hbel.cell (by rw [hb]; exact hadb)
          have hm0 := Int.emod_nonneg Z[k] (b := (a0.size : Int) - (f : Int) + 1) (by omega)
          have hm1 := Int.emod_lt_of_pos Z[k] (b := (a0.size : Int) - (f : Int) + 1) (by omega)
          obtain ⟨q, hq⟩ : ∃ q : Nat, Z[k] % ((a0.size : Int) - (f : Int) + 1) = (q : Int) := ⟨(Z[k] % ((a0.size : Int) - (f : Int) + 1)).toNat, by omega⟩
          have hqI : (q : Int) ≤ (a0.size : Int) - (f : Int) := by omega
          have hts : f + q ≤ a0.size := by omega
          obtain ⟨y, hsl, hy⟩ := cut_part a0 f (f + q) ((f : Int) + (q : Int)) (by omega) (by omega) hts
          unfold tx at hsl
          have HY := Lib.hid hy
          clear hy hcell hm0 hm1
          go_wp2_with (at_builtin; refine wpList_append_lies _ rfl (.tmp 50) (.tmp 55) 22 rfl w.heap.size 9 j0 (.string ⟨#[]⟩) 1 16 Try.underlying22 hj hy0 hy1 hy2 rfl (by decide) _ _ (scells L) rfl (World.ownsRow.alloc HO.out _) _ 1 1 [tx y] rfl rfl (cell_one_new _ _ _) (by intro u hu; simp at hu; subst hu; rfl) (by decide) (by unfold maxLen; omega) (by omega) (Nat.le_trans hzr (by simp)) _ rfl ?_; intro g3 cap3 w2 hown3 hgr3 hat3 hlt3; have hgr4 := grown_alloc (n := 0) hgr3; have HO3 := Lib.hid hown3; have HG4 := Lib.hid hgr4; clear hgr3 hown3 hgr4 hat3)
          go_roundw
          case rel => exact cutRel_step hk1 hts HY.out HLL.out HLF.out HO.out hbel HO3.out HG4.out
          case measure => simp [intOf]; omega
        · obtain ⟨y, hsl, hy⟩ := cut_rest a0 f hf
          unfold tx at hsl
          have hPf : (L ++ [y]).flatten = bs a0 := by rw [List.flatten_append, HLF.out]; simpa using hy.symm
          have HP := Lib.hid hPf
          have HPL : Hid ((full (L ++ [y])).flatten.length ≤ 1000000) := Lib.hid (by rw [full_flat, hPf, bs_size]; omega)
          obtain ⟨W, c, hW⟩ := specOf_ex n 0 (bs a0)
          have HW := Lib.hid hW
          have HWF : Hid (SpecOf n 0 (full (L ++ [y])).flatten W c) := Lib.hid (by rw [full_flat, hPf]; exact hW)
          have hWl := specOf_len hW
          rw [bs_size] at hWl
          clear hy hPf hW
          have hcase : (¬ (k : Int) < (Z.length : Int)) ∨ ((k : Int) < (Z.length : Int) ∧ ¬ (f : Int) < (a0.size : Int)) := by omega
          clear hgo
          rcases hcase with hk2 | ⟨hk2, hf2⟩
          all_goals
            go_wp2_with (at_builtin; refine wpList_append_lies _ rfl (.tmp 58) (.tmp 62) 22 rfl w.heap.size 9 j0 (.string ⟨#[]⟩) 1 16 Try.underlying22 hj hy0 hy1 hy2 rfl (by decide) _ _ (scells L) rfl (World.ownsRow.alloc HO.out _) _ 1 1 [tx y] rfl rfl (cell_one_new _ _ _) (by intro u hu; simp at hu; subst hu; rfl) (by decide) (by unfold maxLen; omega) (by omega) (Nat.le_trans hzr (by simp)) _ rfl ?_; intro g3 cap3 w2 hown3 hgr3 hat3 hlt3; have hgr4 := grown_alloc (n := 0) hgr3; have HO3 := Lib.hid (ownS.app (B := [y]) hown3 rfl); have HB2 := Lib.hid (hbel.grown hgr4 hbel.size fun g hg => (HO.out.lt g hg).1); clear hgr3 hown3 hgr4 hat3)
            refine (srcNew_any _ (-1) (L ++ [y]) w2 HO3.out.reads (own_caps HO3.out) (by simp; omega) (by rw [HP.out, bs_size]; omega)).mono ?_
            rintro _ w3 ⟨rfl, ⟨v3, hS3⟩, hb3⟩
            rw [ahead_neg, failing_neg] at hS3
            have HS3 := Lib.hid hS3; have HB3 := Lib.hid hb3
            clear hS3 hb3
            go_wp2_with fail
            refine (read_script n w3 _ _ _ 0 c v3 _ W HS3.out h0 h1 HPL.out HWF.out).mono ?_
            rintro _ w4 ⟨v4, L4, rfl, ho4, hL4, hk4⟩
            have HO4 := Lib.hid ho4; have HL4 := Lib.hid hL4; have HK4 := Lib.hid hk4
            clear ho4 hL4 hk4
            go_wp2_with fail
            refine (read_plain n _ _ c a0 W (pln_new w4 a0) h0 h1 (by omega) HW.out).mono ?_
            rintro _ w5 ⟨v5, L5, rfl, ho5, hL5, hk5⟩
            obtain rfl := read_same HL4.out hL5
            have HO45 : Hid (ownS w5 w3.heap.size v4 L4) := Lib.hid (HO4.out.kept fun g hg => (hk5.block g (by have := (HO4.out.lt g hg).2; simp; omega) (by have := (HO4.out.lt g hg).2; omega)).trans (Below.heap_alloc _ _ _ (HO4.out.lt g hg).2))
            have HO5 := Lib.hid ho5; have HK5 := Lib.hid hk5
            have hl4 : L4.length ≤ 3000 := by rcases hL5 with ⟨_, rfl⟩ | ⟨_, rfl⟩; omega; simp
            have HB5 : Hid (Below w.heap.size w w5) := Lib.hid (by
              have b3 := HB2.out.trans (HB3.out.mono HB2.out.size)
              have b4 := Below.kept b3 HK4.out (fun i hi => Nat.le_trans HB2.out.size hi) b3.size
              have b5 := b4.alloc b4.size (.cells #[.string a0] 41)
              exact Below.kept b5 hk5 (fun i hi => Nat.le_trans b4.size hi) b5.size)
            clear ho5 hk5
            go_wp2_with fail
            refine (texts_any v4 v5 L4 L4 _ HO45.out.reads HO5.out.reads (by omega)).mono ?_
            rintro _ w6 ⟨rfl, d6, rfl⟩
            have hd : decide (L4 = L4) = true := decide_eq_true rfl
            rw [hd]; clear hd
            by_cases hc : (c : Int) = 0
            · have hc0 : c = 0 := by omega
              subst hc0
              have HWL : Hid (L4 = wordsL (bs a0)) := Lib.hid (by rcases HL4.out with ⟨_, h⟩ | ⟨h, _⟩; rw [h]; exact spec_whole HW.out; exact absurd rfl h)
              clear hL5
              have HO5d : Hid (ownS (w5.drewN d6) (w4.alloc (.cells #[.string a0] 41)).heap.size v5 L4) := Lib.hid (HO5.out.kept fun _ _ => rfl)
              go_wp2_with fail
              refine (refWords_as a0 L4 _ (by omega) HWL.out.symm).mono ?_
              rintro _ w7 ⟨r7, rfl, ho7, hb7⟩
              have HO7 := Lib.hid ho7
              clear ho7
              go_wp2_with fail
              refine (texts_any v5 r7 L4 L4 _ (HO5d.out.below hb7 (Nat.le_refl _)).reads HO7.out.reads (by omega)).mono ?_
              rintro _ w8 ⟨rfl, d8, rfl⟩
              have hd : decide (L4 = L4) = true := decide_eq_true rfl
              rw [hd]; clear hd
              go_wp2
              go_ret
              refine ⟨rfl, below_drewN' ((below_drewN' HB5.out d6).trans (hb7.mono HB5.out.size)) d8⟩
            · clear hL5
              go_wp2
              go_ret
              exact ⟨rfl, below_drewN' HB5.out d6⟩
end Go.Proofs.Ytfajhjppbecjaaa
