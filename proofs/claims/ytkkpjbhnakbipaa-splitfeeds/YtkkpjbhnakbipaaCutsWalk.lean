/- The walk of SplitCuts. -/
import Derived.Test.YtkkpjbhnakbipaaWordsWalk
namespace Go.Proofs.Ytkkpjbhnakbipaa
open Go.RowKit

/-- The slice value v reads as the numbers Z of 16 bits. -/
def u16sAt (w : World) (v : Value) (Z : List Int) : Prop :=
  ∃ a cap, v = .slice a Z.length cap ∧ ∀ j (h : j < Z.length), ∃ ad, a = some ad ∧ ad.block < w.heap.size ∧ w.cell? (ad.add j) = some (.int .u16 Z[j]) ∧ 0 ≤ Z[j] ∧ Z[j] ≤ 65535
theorem ended_ext (h l : List UInt8) : ∃ N, ended (h ++ l) = ended h ++ N := by
  induction l using snoc_ind with
  | h0 => exact ⟨[], by simp⟩
  | h1 l c ih =>
    obtain ⟨N, hN⟩ := ih
    rw [← List.append_assoc]
    cases hc : gapB c
    · exact ⟨N, by rw [ended_more hc, hN]⟩
    · exact ⟨N ++ endL (opn (h ++ l)), by rw [ended_gap hc, hN, List.append_assoc]⟩
/-- Block g is a row of n bytes at least that may be written. -/
def rowOk (w : World) (g n : Nat) : Prop := ∃ cs fr, w.heap[g]? = some (.cells cs 5 fr) ∧ n ≤ cs.size ∧ n ≤ fr.1
theorem rowOk.cells {w : World} {g n j : Nat} (h : rowOk w g n) (hj : j < n) : (∃ u, w.cell? ⟨g, j, none⟩ = some u) ∧ w.frozen? ⟨g, j, none⟩ = false := by
  obtain ⟨cs, fr, hg, h1, h2⟩ := h
  refine ⟨⟨cs[j], ?_⟩, ?_⟩
  · rw [cell_of_row w g j cs 5 fr hg, Array.getElem?_eq_getElem (by omega)]
  · unfold World.frozen?; rw [hg]; simp; omega
theorem rowOk.store {w : World} {g n : Nat} (h : rowOk w g n) (j : Nat) (u : Value) : rowOk (w.setCell ⟨g, j, none⟩ u) g n := by
  obtain ⟨cs, fr, hg, h1, h2⟩ := h
  exact ⟨_, fr, heap_setCell_at hg u, by simpa using h1, h2⟩
theorem rowOk.kept {w w' : World} {g n : Nat} (h : rowOk w g n) (hk : w'.heap[g]? = w.heap[g]?) : rowOk w' g n := by
  obtain ⟨cs, fr, hg, h1, h2⟩ := h
  exact ⟨cs, fr, hk.trans hg, h1, h2⟩
theorem conv_row (w : World) (s : ByteArray) : ∃ c w', (convert 9 35 (.string s)).run Try.prog w = .ok (.slice (some ⟨w.heap.size, 0, none⟩) s.size c) w' ∧ bytesAt w' (.slice (some ⟨w.heap.size, 0, none⟩) s.size c) (bs s) ∧ rowOk w' w.heap.size s.size ∧ Below w.heap.size w w' ∧ w'.heap.size = w.heap.size + 1 := by
  refine ⟨_, _, run_bytes_of_string w 9 35 5 s Try.underlying9 Try.underlying35 Try.underlying5, bytesAt_conv w s _ _, ?_, (Below.refl _ _).drew.alloc (Nat.le_refl _) _, by rw [World.size_alloc]; rfl⟩
  have hsz : s.size ≤ (bytesRow s (grownCap w s.size 0 5)).size := by
    unfold bytesRow
    rw [Array.size_append, Array.size_map]
    show s.data.size ≤ _
    omega
  exact ⟨_, _, heap_alloc_new w.drew _, hsz, hsz⟩

/-- What the law has behind the first f bytes. -/
def CutRel (s : ByteArray) (Z : List Int) (w : World) (K lim : Nat) (got f i : Value) (wr : World) : Prop :=
  ∃ (k m : Nat) (v : Value), i = .int .i64 (k : Int) ∧ f = .int .i64 (m : Int) ∧ m ≤ s.size ∧ k ≤ Z.length + 1 ∧ (k = Z.length + 1 → m = s.size) ∧
    ownS wr w.heap.size got (ended ((bs s).take m)) ∧ Spl wr w.heap.size K lim v (opn ((bs s).take m)) false ∧ Below w.heap.size w wr
def PieceRel (w : World) (g n : Nat) (j : Value) (wr : World) : Prop := ∃ m : Nat, m ≤ n ∧ j = .int .i64 (m : Int) ∧ Kept (fun k => k = g) w wr ∧ rowOk wr g n
theorem pieceRel_step {w wr : World} {g n m : Nat} {u : Value} (hm : m < n) (hk : Kept (fun k => k = g) w wr) (hr : rowOk wr g n) : PieceRel w g n (.int .i64 ((m + 1 : Nat) : Int)) (wr.setCell ⟨g, m, none⟩ u) :=
  ⟨m + 1, hm, rfl, hk.setCell _ _ fun _ => rfl, hr.store m u⟩
theorem ownS.row {w w1 : World} {b g : Nat} {u : Value} {n : Nat} {L : List (List UInt8)} (h : ownS w b u L) (hr : rowOk w g n) (hk : Kept (fun k => k = g) w w1) : ownS w1 b u L := by
  refine h.kept fun i hi => hk.block i (h.lt i hi).2 ?_
  rintro rfl
  obtain ⟨cs, hc⟩ := h.block i hi
  obtain ⟨cs2, fr, hc2, _⟩ := hr
  rw [hc] at hc2; cases hc2
theorem Spl.row {w w1 : World} {base K lim g n : Nat} {v : Value} {o : List UInt8} {b : Bool} (h : Spl w base K lim v o b) (hr : rowOk w g n) (hv : some g ≠ v.ownBlock) (hk : Kept (fun k => k = g) w w1) : Spl w1 base K lim v o b := by
  refine h.kept fun i hi => hk.block i (h.mine_lt i hi) ?_
  rintro rfl
  rcases hi with rfl | hi
  · obtain ⟨cs2, fr, hc2, _⟩ := hr
    rw [h.2.1] at hc2; cases hc2
  · exact hv hi
theorem take_mid (s : ByteArray) {f t : Nat} (hft : f ≤ t) : (bs s).take t = (bs s).take f ++ ((bs s).drop f).take (t - f) := by
  have := List.take_append_drop f ((bs s).take t)
  rw [List.take_take, Nat.min_eq_left hft, List.drop_take] at this
  exact this.symm

theorem cut_mid (s : ByteArray) (f t : Nat) (T : Int) (hT : T = (t : Int)) (h1 : f < t) (h2 : t ≤ s.size) : ∃ y : ByteArray, (∀ w, (Instr.slice 9 (.string s) (some (.int .i64 (f : Int))) (some (.int .i64 T)) none).run Try.prog w = .ok (.string y) w) ∧
    (bs s).take t = (bs s).take f ++ bs y ∧ y.size = t - f := by
  subst hT
  refine ⟨s.extract f t, fun w => ?_, ?_, ?_⟩
  · rw [run_slice_string w 9 s .i64 .i64 f t Try.underlying9 (by omega) (by omega) (by omega)]
    simp only [Int.toNat_natCast]
  · rw [extract_bs, take_mid s (Nat.le_of_lt h1)]
  · rw [ByteArray.size_extract]; omega

theorem piece_ne {wo w3 : World} {base K lim : Nat} {v v4 : Value} {o : List UInt8} {b : Bool} (h : Spl wo base K lim v o b) (hz : w3.heap.size = wo.heap.size + 1) (hm : Moved v v4 w3.heap.size) : some wo.heap.size ≠ v4.ownBlock := by
  intro e
  rcases hm with hm | hm
  · have := (ownB.lt h.2.2 wo.heap.size (by rw [← hm, ← e])).2; omega
  · have := hm wo.heap.size e.symm; omega
theorem row_feed {wo w3 w4 : World} {base K lim n : Nat} {v : Value} {o : List UInt8} {b : Bool} (h : Spl wo base K lim v o b) (hr : rowOk w3 wo.heap.size n) (hz : w3.heap.size = wo.heap.size + 1) (hk : Kept (mine K v) w3 w4) : rowOk w4 wo.heap.size n :=
  hr.kept (hk.block _ (by omega) (fun hm => by have := h.mine_lt _ hm; omega))
theorem cutRel_step {s : ByteArray} {Z : List Int} {w wo w3 w4 wr w5 : World} {K lim k f t n : Nat} {v v4 u r5 : Value} {y : ByteArray} {N : List (List UInt8)}
    (hk : k ≤ Z.length) (hts : t ≤ s.size) (hend : k + 1 = Z.length + 1 → t = s.size) (hy : (bs s).take t = (bs s).take f ++ bs y) (hN : ended ((bs s).take f ++ bs y) = ended ((bs s).take f) ++ N)
    (hS : Spl wo w.heap.size K lim v (opn ((bs s).take f)) false) (hbel : Below w.heap.size w wo) (hb3 : Below wo.heap.size wo w3) (hz3 : w3.heap.size = wo.heap.size + 1)
    (hS4 : Spl w4 w.heap.size K lim v4 (opn ((bs s).take f ++ bs y)) false) (hk4 : Kept (mine K v) w3 w4) (hm4 : Moved v v4 w3.heap.size) (hr4 : rowOk w4 wo.heap.size n) (hkp : Kept (fun i => i = wo.heap.size) w4 wr)
    (hu : ownS wr w.heap.size u (ended ((bs s).take f))) (hown5 : ownS w5 w.heap.size r5 (ended ((bs s).take f) ++ N)) (hgr5 : wr.grownBy w5 u.ownBlock) :
    CutRel s Z w K lim r5 (.int .i64 (t : Int)) (.int .i64 ((k + 1 : Nat) : Int)) w5 := by
  have hSr := hS4.row hr4 (piece_ne hS hz3 hm4) hkp
  have z0 := hbel.size
  have z3 : w.heap.size ≤ w3.heap.size := by omega
  have z4 := Nat.le_trans z3 hk4.size
  have zr := Nat.le_trans z4 hkp.size
  refine ⟨k + 1, t, v4, rfl, rfl, hts, by omega, hend, ?_, ?_, ?_⟩
  · rw [hy, hN]; exact hown5
  · rw [hy]; exact hSr.grownS hu hgr5
  · have b3 := hbel.trans (hb3.mono z0)
    have b4 := Below.kept b3 hk4 hS.mine_ge z3
    have br := Below.kept b4 hkp (fun i hi => by rw [hi]; exact z0) z4
    exact br.grown hgr5 zr fun g hg => (hu.lt g hg).1

set_option maxRecDepth 100000 in
set_option maxHeartbeats 1000000 in
theorem splitCuts_walk (a0 : ByteArray) (x : Value) (Z : List Int) (w : World) (w0 : a0.size ≤ maxLen) (hx : u16sAt w x Z) (hZ : Z.length ≤ maxLen) :
    Calls Try.prog 5 #[.string a0, x] w fun e w' => e = .returned (.bool true) ∧ Below w.heap.size w w' := by
  unfold maxLen at w0 hZ
  obtain ⟨aZ, cZ, rfl, hcZ⟩ := hx
  have HZ := Lib.hid hcZ; clear hcZ
  by_cases h : 3000 < a0.size
  · go_enter Try.func5, Try.ntmps5
    go_wp2_with (go_at_call 7; refine (awake_any _).mono ?_; rintro e w1 ⟨rfl, hb⟩)
    go_ret
    exact ⟨rfl, hb⟩
  · by_cases h2 : 100 < Z.length
    · go_enter Try.func5, Try.ntmps5
      go_wp2_with (go_at_call 7; refine (awake_any _).mono ?_; rintro e w1 ⟨rfl, hb⟩)
      go_ret
      exact ⟨rfl, hb⟩
    · have hsI : ¬ (3000 : Int) < (a0.size : Int) := by omega
      have hzI : ¬ (100 : Int) < (Z.length : Int) := by omega
      obtain ⟨lim, hlim⟩ : ∃ lim : Nat, (lim : Int) = max (a0.size : Int) 1 := ⟨max a0.size 1, by omega⟩
      have HL := Lib.hid hlim; clear hlim
      have hsz : (bs a0).length = a0.size := size_toList a0
      have HSZ := Lib.hid hsz; clear hsz
      go_enter Try.func5, Try.ntmps5
      go_wp2_with fail
      refine (awake_any _).mono ?_
      rintro e w1 ⟨rfl, hb1⟩
      have z1 := hb1.size
      go_wp2_with fail
      refine (new_any _ lim _ (by omega) (by omega) HL.out).mono ?_
      rintro e w2 ⟨rfl, hw2⟩
      have hS2 : Spl w2 w.heap.size w1.heap.size lim (.slice none 0 0) [] false := by rw [hw2]; exact new_spl w1 _ lim z1
      have hb2 : Below w.heap.size w w2 := by rw [hw2]; exact hb1.alloc z1 _
      have HS2 := Lib.hid hS2
      clear hw2 hS2
      go_wp2
      go_loopw [6, 7, 8] (fun got f i wr => CutRel a0 Z w w1.heap.size lim got f i wr) (fun _ _ i _ => Z.length + 1 - (intOf i).toNat)
      case atStart => exact ⟨0, 0, _, rfl, rfl, by omega, by omega, by omega, World.ownsRow_nil _ _ _ _, HS2.out, hb2⟩
      case round =>
        obtain ⟨k, f, v, rfl, rfl, hf, hk, hlast, hown, hsp, hbel⟩ := hrel
        have HO := Lib.hid hown; have HS := Lib.hid hsp; have HLA := Lib.hid hlast
        clear hown hsp hlast
        have hzr := hbel.size
        by_cases hgo : k ≤ Z.length ∧ f < a0.size
        · obtain ⟨hk1, hf1⟩ := hgo
          have hkI : (k : Int) ≤ (Z.length : Int) := by omega
          have hfI : (f : Int) < (a0.size : Int) := by omega
          by_cases hkz : k < Z.length
          · obtain ⟨ad, rfl, hadb, hcell, q0, q1⟩ := HZ.out k hkz
            have hcell2 : wr.cell? (ad.add k) = some (.int .u16 Z[k]) := by
              rw [← hcell]
              have hb : (ad.add k).block = ad.block := by unfold Addr.add; split <;> rfl
              exact hbel.cell (by rw [hb]; exact hadb)
            have hm0 := Int.emod_nonneg Z[k] (b := (a0.size : Int) - (f : Int)) (by omega)
            have hm1 := Int.emod_lt_of_pos Z[k] (b := (a0.size : Int) - (f : Int)) (by omega)
            obtain ⟨q, hq⟩ : ∃ q : Nat, Z[k] % ((a0.size : Int) - (f : Int)) = (q : Int) := ⟨(Z[k] % ((a0.size : Int) - (f : Int))).toNat, by omega⟩
            have hqI : (q : Int) < (a0.size : Int) - (f : Int) := by omega
            have hft : f < f + 1 + q := by omega
            have hts : f + 1 + q ≤ a0.size := by omega
            have HEND : Hid (k + 1 = Z.length + 1 → f + 1 + q = a0.size) := Lib.hid (by omega)
            obtain ⟨y, hsl, hy1, hy2⟩ := cut_mid a0 f (f + 1 + q) ((f : Int) + 1 + (q : Int)) (by omega) hft hts
            obtain ⟨cx, w3, hcv, hx3, hr3, hb3, hz3⟩ := conv_row wr y
            clear hcell hm0 hm1
            have HY := Lib.hid hy1; have HY2 := Lib.hid hy2; have HX := Lib.hid hx3; have HR := Lib.hid hr3
            clear hy1 hy2 hx3 hr3
            have hys : (y.size : Int) ≤ 3000 := by have := HY2.out; omega
            obtain ⟨N, hN⟩ := ended_ext ((bs a0).take f) (bs y)
            have HF : Hid (fits lim ((bs a0).take f ++ bs y)) := Lib.hid (by rw [← HY.out]; exact fits_all (by rw [List.length_take]; have h1 := HL.out; have h2 := HSZ.out; omega))
            have HBL : Hid (((bs a0).take f).length + (bs y).length ≤ 1048576) := Lib.hid (by rw [← List.length_append, ← HY.out, List.length_take]; have h2 := HSZ.out; omega)
            have HLE : Hid ((ended ((bs a0).take f)).length + N.length ≤ 1048576) := Lib.hid (by have h1 := ended_len ((bs a0).take f ++ bs y); rw [hN, List.length_append, List.length_append] at h1; have h2 := HBL.out; omega)
            have HN := Lib.hid hN; clear hN
            obtain ⟨wo, hwo⟩ : ∃ wo, wo = wr := ⟨_, rfl⟩
            subst hwo
            go_wp2_with fail
            refine (feed_fits _ w3 w.heap.size w1.heap.size lim v ((bs a0).take f) (bs y) N (HS.out.below hb3 (Nat.le_refl _)) HF.out HN.out HX.out (new_bytes_ne HS.out rfl) HBL.out).mono ?_
            rintro e w4 ⟨r4, v4, rfl, hown4, hS4, hk4, hm4⟩
            have HR4 := Lib.hid (row_feed HS.out HR.out hz3 hk4)
            have HO4 := Lib.hid hown4; have HS4 := Lib.hid hS4
            have HU4 := Lib.hid ((HO.out.below hb3 (Nat.le_refl _)).spl (HS.out.below hb3 (Nat.le_refl _)) hk4)
            clear hown4 hS4
            go_wp2_with fail
            go_loopw [13] (fun j wr => PieceRel w4 wo.heap.size y.size j wr) (fun j _ => y.size - (intOf j).toNat)
            case atStart => exact ⟨0, Nat.zero_le _, rfl, Kept.refl _ _, HR4.out⟩
            case round =>
              obtain ⟨m, hm, rfl, hkp, hrp⟩ := hrel
              have HRP := Lib.hid hrp; clear hrp
              by_cases hml : m < y.size
              · obtain ⟨⟨u0, hc0⟩, hf0⟩ := HRP.out.cells hml
                go_wp2_with fail
                go_roundw
                case rel => exact pieceRel_step hml hkp HRP.out
                case measure => simp [intOf]; omega
              · have HA := Lib.hid (HU4.out.row HR4.out hkp)
                have HB := Lib.hid (HO4.out.row HR4.out hkp)
                have HZ5 : Hid (w.heap.size ≤ wr.heap.size) := Lib.hid (by have h1 := hk4.size; have h2 := hkp.size; omega)
                go_wp2_with (at_builtin; refine wpList_append_texts rfl (.tmp 83) (.tmp 84) rfl w.heap.size w3.heap.size u6 r4 (ended ((bs a0).take f)) N rfl rfl HA.out HB.out HLE.out HZ5.out ?_; intro r5 w5 hown5 hgr5; have HO5 := Lib.hid hown5; have HG5 := Lib.hid hgr5; clear hown5 hgr5)
                go_roundw
                case rel => exact cutRel_step (t := f + 1 + q) hk1 hts HEND.out HY.out HN.out HS.out hbel hb3 hz3 HS4.out hk4 hm4 HR4.out hkp HA.out HO5.out HG5.out
                case measure => simp [intOf]; omega
          · have hts : a0.size ≤ a0.size := Nat.le_refl _
            obtain ⟨y, hsl, hy1, hy2⟩ := cut_mid a0 f a0.size (a0.size : Int) rfl hf1 hts
            obtain ⟨cx, w3, hcv, hx3, hr3, hb3, hz3⟩ := conv_row wr y
            have HY := Lib.hid hy1; have HY2 := Lib.hid hy2; have HX := Lib.hid hx3; have HR := Lib.hid hr3
            clear hy1 hy2 hx3 hr3
            have hys : (y.size : Int) ≤ 3000 := by have := HY2.out; omega
            obtain ⟨N, hN⟩ := ended_ext ((bs a0).take f) (bs y)
            have HF : Hid (fits lim ((bs a0).take f ++ bs y)) := Lib.hid (by rw [← HY.out]; exact fits_all (by rw [List.length_take]; have h1 := HL.out; have h2 := HSZ.out; omega))
            have HBL : Hid (((bs a0).take f).length + (bs y).length ≤ 1048576) := Lib.hid (by rw [← List.length_append, ← HY.out, List.length_take]; have h2 := HSZ.out; omega)
            have HLE : Hid ((ended ((bs a0).take f)).length + N.length ≤ 1048576) := Lib.hid (by have h1 := ended_len ((bs a0).take f ++ bs y); rw [hN, List.length_append, List.length_append] at h1; have h2 := HBL.out; omega)
            have HN := Lib.hid hN; clear hN
            obtain ⟨wo, hwo⟩ : ∃ wo, wo = wr := ⟨_, rfl⟩
            subst hwo
            go_wp2_with fail
            refine (feed_fits _ w3 w.heap.size w1.heap.size lim v ((bs a0).take f) (bs y) N (HS.out.below hb3 (Nat.le_refl _)) HF.out HN.out HX.out (new_bytes_ne HS.out rfl) HBL.out).mono ?_
            rintro e w4 ⟨r4, v4, rfl, hown4, hS4, hk4, hm4⟩
            have HR4 := Lib.hid (row_feed HS.out HR.out hz3 hk4)
            have HO4 := Lib.hid hown4; have HS4 := Lib.hid hS4
            have HU4 := Lib.hid ((HO.out.below hb3 (Nat.le_refl _)).spl (HS.out.below hb3 (Nat.le_refl _)) hk4)
            clear hown4 hS4
            go_wp2_with fail
            go_loopw [13] (fun j wr => PieceRel w4 wo.heap.size y.size j wr) (fun j _ => y.size - (intOf j).toNat)
            case atStart => exact ⟨0, Nat.zero_le _, rfl, Kept.refl _ _, HR4.out⟩
            case round =>
              obtain ⟨m, hm, rfl, hkp, hrp⟩ := hrel
              have HRP := Lib.hid hrp; clear hrp
              by_cases hml : m < y.size
              · obtain ⟨⟨u0, hc0⟩, hf0⟩ := HRP.out.cells hml
                go_wp2_with fail
                go_roundw
                case rel => exact pieceRel_step hml hkp HRP.out
                case measure => simp [intOf]; omega
              · have HA := Lib.hid (HU4.out.row HR4.out hkp)
                have HB := Lib.hid (HO4.out.row HR4.out hkp)
                have HZ5 : Hid (w.heap.size ≤ wr.heap.size) := Lib.hid (by have h1 := hk4.size; have h2 := hkp.size; omega)
                go_wp2_with (at_builtin; refine wpList_append_texts rfl (.tmp 83) (.tmp 84) rfl w.heap.size w3.heap.size u6 r4 (ended ((bs a0).take f)) N rfl rfl HA.out HB.out HLE.out HZ5.out ?_; intro r5 w5 hown5 hgr5; have HO5 := Lib.hid hown5; have HG5 := Lib.hid hgr5; clear hown5 hgr5)
                go_roundw
                case rel => exact cutRel_step (t := a0.size) hk1 hts (fun _ => rfl) HY.out HN.out HS.out hbel hb3 hz3 HS4.out hk4 hm4 HR4.out hkp HA.out HO5.out HG5.out
                case measure => simp [intOf]; omega
        · have hfs : f = a0.size := by have := HLA.out; omega
          have hnot : ¬ ((k : Int) ≤ (Z.length : Int) ∧ (f : Int) < (a0.size : Int)) := by omega
          have htk : (bs a0).take f = bs a0 := List.take_of_length_le (by rw [hfs]; exact Nat.le_of_eq HSZ.out)
          have HOF : Hid (ownS wr w.heap.size u6 (ended (bs a0))) := Lib.hid (by have := HO.out; rwa [htk] at this)
          have HSF : Hid (Spl wr w.heap.size w1.heap.size lim v (opn (bs a0)) false) := Lib.hid (by have := HS.out; rwa [htk] at this)
          have HOL : Hid ((opn (bs a0)).length ≤ 1048576) := Lib.hid (by have h1 := opn_len (bs a0); have h2 := HSZ.out; omega)
          have HLE : Hid ((ended (bs a0)).length + (endL (opn (bs a0))).length ≤ 1048576) := Lib.hid (by have h1 := wordsL_len (bs a0); have h2 := HSZ.out; unfold wordsL at h1; rw [List.length_append] at h1; omega)
          clear htk hgo
          have hnf : ¬ (f : Int) < (a0.size : Int) := by omega
          have hwl := wordsL_len (bs a0)
          rw [size_toList] at hwl
          obtain ⟨L, hL⟩ : ∃ L, L = wordsL (bs a0) := ⟨_, rfl⟩
          rw [← hL] at hwl
          have HLW := Lib.hid hL; clear hL hnot hfs
          go_wp2_with (first
            | (go_at_call 19; refine (end_any _ _ _ _ _ _ _ HSF.out HOL.out).mono ?_; rintro e w4 ⟨r4, v4, rfl, hown4, hS4, hv4, hk4⟩; have HO4 := Lib.hid hown4; have HS4 := Lib.hid hS4; have HU4 := Lib.hid (HOF.out.spl HSF.out hk4); clear hown4 hS4)
            | (at_builtin; refine wpList_append_texts rfl (.tmp 87) (.tmp 89) rfl w.heap.size wr.heap.size u6 r4 (ended (bs a0)) (endL (opn (bs a0))) rfl rfl HU4.out HO4.out HLE.out (Nat.le_trans hzr hk4.size) ?_; intro r5 w5 hown5 hgr5; have HO5 := Lib.hid hown5; have HG5 := Lib.hid hgr5; obtain ⟨cx, w6, hcv, hx6, hr6, hb6, hz6⟩ := conv_row w5 a0; clear hown5 hgr5 hx6 hr6))
          all_goals
            have h5 : ownS w5 w.heap.size r5 L := by rw [HLW.out]; exact HO5.out
            have HO6 := Lib.hid (h5.below hb6 (Nat.le_refl _))
            clear h5
            refine (feed_nil _ _).mono ?_
            rintro e w7 ⟨rfl, rfl⟩
            go_wp2_with fail
            refine (words_any a0 _ (by omega)).mono ?_
            rintro e w8 ⟨r8, rfl, hown8, hb8⟩
            rw [← HLW.out] at hown8
            have HO8 := Lib.hid hown8; clear hown8
            go_wp2_with fail
            refine (texts_any _ _ L L _ (HO6.out.below hb8 (Nat.le_refl _)).reads HO8.out.reads (by omega)).mono ?_
            rintro e w9 ⟨rfl, n, rfl⟩
            have hd : decide (L = L) = true := decide_eq_true rfl
            rw [hd]; clear hd
            go_wp2_with (first
              | (go_at_call 19; refine (end_nil _).mono ?_; rintro e w' ⟨rfl, rfl⟩)
              | (go_at_call 18; refine (open_nil _).mono ?_; rintro e w' ⟨rfl, rfl⟩))
            go_ret
            refine ⟨rfl, ?_⟩
            have z4 := Nat.le_trans hzr hk4.size
            have b4 := Below.kept hbel hk4 HSF.out.mine_ge hzr
            have b5 := b4.grown HG5.out z4 fun g hg => (HOF.out.lt g hg).1
            have b6 := b5.trans (hb6.mono b5.size)
            exact below_drewN' (b6.trans (hb8.mono b6.size)) n
end Go.Proofs.Ytkkpjbhnakbipaa
