/- The walk of SymNone. -/
import Derived.Test.YtgjailjnnbpbdaaAwake
namespace Go.Proofs.Ytgjailjnnbpbdaa
open Go.RowKit Go.Maps

theorem merges_nil (w : World) : Calls Try.prog 18 #[.pointer none] w fun e w' => e = .returned (.slice none 0 0) ∧ w' = w := by
  go_enter Try.func18, Try.ntmps18
  go_wp2
  go_ret
  exact ⟨rfl, rfl⟩
/-- After k joins of the last symbol with itself. -/
structure Dbl (J : List Joint) (k : Nat) (last : Int) : Prop where
  len : J.length = k
  there : thereOf J last = true
  size : (txtOf J last).size = 2 ^ k
  all : ∀ t ∈ textsOf J, t.size ≤ 2 ^ k
theorem dbl_start : Dbl [] 0 97 := by
  refine ⟨rfl, by decide, by decide +kernel, fun t ht => ?_⟩
  unfold textsOf at ht
  rw [List.map_nil, List.append_nil] at ht
  obtain ⟨c, _, rfl⟩ := List.mem_map.1 ht
  exact Nat.le_refl _
theorem dbl_over {J : List Joint} {last : Int} (h : Dbl J 16 last) : joinOf J last last = ((0, 4), J) :=
  join_long (by rw [h.there]; rfl) (by rw [h.size]; decide)
theorem dbl_next {J : List Joint} {k : Nat} {last : Int} (h : Dbl J k last) (hk : k < 16) :
    joinOf J last last = ((((256 + J.length : Nat) : Int), 0), J ++ [(txtOf J last ++ txtOf J last, last, last)]) ∧ Dbl (joinOf J last last).2 (k + 1) ((256 + J.length : Nat) : Int) := by
  have hp : 2 ^ k ≤ 32768 := Nat.pow_le_pow_right (n := 2) (i := k) (j := 15) (by decide) (by omega)
  have hp0 : 0 < 2 ^ k := Nat.pow_pos (by decide)
  have hs : (txtOf J last ++ txtOf J last).size = 2 ^ (k + 1) := by rw [size_app, h.size, Nat.pow_succ]; omega
  have hn : (findOf J (txtOf J last ++ txtOf J last)).2 = false := by
    cases e : (findOf J (txtOf J last ++ txtOf J last)).2 with
    | false => rfl
    | true =>
      have := h.all _ (find_snd.1 e)
      rw [hs, Nat.pow_succ] at this
      omega
  have e := join_new (J := J) (a := last) (b := last) (by rw [h.there]; rfl) (by rw [h.size]; omega) hn
  refine ⟨e, ?_⟩
  rw [e]
  have ht : thereOf (J ++ [(txtOf J last ++ txtOf J last, last, last)]) ((256 + J.length : Nat) : Int) = true := there_iff.2 ⟨by omega, by rw [texts_len, List.length_append, List.length_singleton]; omega⟩
  refine ⟨by rw [List.length_append, h.len]; rfl, ht, ?_, fun t hm => ?_⟩
  · obtain ⟨h0, h1⟩ := there_iff.1 ht
    rw [txt_there h0 h1, ← hs]
    congr 1
    have hh := texts_high (J := J ++ [(txtOf J last ++ txtOf J last, last, last)]) (k := J.length) (by simp) (by rw [texts_len]; simp)
    refine hh.trans ?_
    simp
  · rw [texts_more] at hm
    rcases List.mem_append.1 hm with m | m
    · have := h.all t m
      rw [Nat.pow_succ]; omega
    · rw [List.mem_singleton] at m
      rw [m]
      exact Nat.le_of_eq hs
def NoneRel (w : World) (K : Nat) (last i : Value) (wr : World) : Prop := ∃ (n : Nat) (z : Int) (J : List Joint), i = .int .i64 (n : Int) ∧ n ≤ 20 ∧ last = .int .i64 z ∧ (0 ≤ z ∧ z ≤ 1000) ∧ Dbl J (min n 16) z ∧ OwnT w K J wr
set_option maxRecDepth 100000 in
set_option maxHeartbeats 4000000 in
theorem symNone_walk (id : Int) (times : Int) (w : World) (hi : (Lit.int .i64 id).wf = true) (ht : (Lit.int .u8 times).wf = true) :
    Calls Try.prog 5 #[.int .i64 id, .int .u8 times] w fun e w' => e = .returned (.bool true) ∧ Below w.heap.size w w' := by
  obtain ⟨i0, i1⟩ := bounds_i64 hi
  obtain ⟨t0, t1⟩ := bounds_u8 ht
  clear hi ht
  have cT := text_nil
  unfold noText at cT
  have cP := fun w => pair_nil id w i0 i1
  unfold pairV at cP
  go_enter Try.func5, Try.ntmps5
  go_wp2_with fail
  refine (awake_any _).mono ?_
  rintro e w1 ⟨rfl, hb1⟩
  have HB1 := Lib.hid hb1
  clear hb1
  go_wp2_with fail
  refine (join_nil _ _ _).mono ?_
  rintro e w2 ⟨rfl, rfl⟩
  go_wp2_with fail
  refine (cT _ _).mono ?_
  rintro e w3 ⟨rfl, rfl⟩
  go_wp2_with fail
  refine (find_nil _ _).mono ?_
  rintro e w4 ⟨rfl, rfl⟩
  go_wp2_with fail
  refine (cP _).mono ?_
  rintro e w5 ⟨rfl, hb5⟩
  have HB5 : Hid (Below w.heap.size w w5) := Lib.hid (HB1.out.trans (hb5.mono HB1.out.size))
  clear hb5 cT cP
  go_wp2_with fail
  refine (slen_nil _).mono ?_
  rintro e w6 ⟨rfl, rfl⟩
  go_wp2_with fail
  refine (merges_nil _).mono ?_
  rintro e w7 ⟨rfl, rfl⟩
  have HO : Hid (OwnT w (w5.heap.size + 1) [] ((w5.alloc (.cells #[.int .i64 0, .int .i64 0] 32)).alloc (.cells #[.slice none 0 0, .map none] 54))) := Lib.hid (by
    have := OwnT.new (w := w) (w1 := w5.alloc (.cells #[.int .i64 0, .int .i64 0] 32)) (HB5.out.alloc HB5.out.size _)
    rwa [World.size_alloc] at this)
  go_wp2_with fail
  refine (lenO_any w _ _ [] HO.out (by simp)).mono ?_
  rintro e w8 ⟨rfl, rfl⟩
  generalize (w5.alloc (.cells #[.int .i64 0, .int .i64 0] 32)).alloc (.cells #[.slice none 0 0, .map none] 54) = w9 at *
  generalize w5.heap.size + 1 = K at *
  go_wp2
  go_loopw [15, 16] (fun last i wr => NoneRel w K last i wr) (fun _ i _ => 21 - (intOf i).toNat)
  case atStart => exact ⟨0, 97, [], rfl, by omega, rfl, by omega, dbl_start, HO.out⟩
  case round =>
    obtain ⟨n, z, J, rfl, hn, rfl, hz, hd, ho⟩ := hrel
    have HD := Lib.hid hd; have HT := Lib.hid ho
    have hJ : J.length = min n 16 := hd.len
    clear hd ho
    by_cases hgo : n < 20
    · have hgI : (n : Int) < 20 := by omega
      have cJ := joinO_any w wr K J z z HT.out (by omega) (by omega) (by omega) (by omega) (by omega)
      by_cases h16 : n < 16
      · have h16I : (n : Int) < 16 := by omega
        have hD := HD.out
        rw [Nat.min_eq_left (by omega)] at hD hJ
        obtain ⟨e1, e2⟩ := dbl_next hD h16
        obtain ⟨J', hJ'⟩ : ∃ J', (joinOf J z z).2 = J' := ⟨_, rfl⟩
        have e3 : (joinOf J z z).1 = (((256 + J.length : Nat) : Int), 0) := by rw [e1]
        rw [hJ'] at cJ e2
        rw [e3] at cJ
        clear e1 e3 hJ' hD
        have HE := Lib.hid e2
        clear e2
        obtain ⟨y, hy⟩ : ∃ y : Int, ((256 + J.length : Nat) : Int) = y := ⟨_, rfl⟩
        rw [hy] at cJ HE
        have hyb : 0 ≤ y ∧ y ≤ 1000 := by omega
        clear hy
        go_wp2_with fail
        refine cJ.mono ?_
        rintro e w10 ⟨rfl, ho⟩
        have HO2 := Lib.hid ho
        clear ho cJ
        go_wp2
        go_roundw
        case rel => exact ⟨n + 1, y, J', by simp, by omega, rfl, hyb, by rw [Nat.min_eq_left (by omega)]; exact HE.out, HO2.out⟩
        case measure => simp [intOf]; omega
      · have h16I : ¬ (n : Int) < 16 := by omega
        have hD := HD.out
        rw [Nat.min_eq_right (by omega)] at hD hJ
        rw [dbl_over hD] at cJ
        have HE := Lib.hid hD
        clear hD
        go_wp2_with fail
        refine cJ.mono ?_
        rintro e w10 ⟨rfl, ho⟩
        have HO2 := Lib.hid ho
        clear ho cJ
        go_wp2
        go_roundw
        case rel => exact ⟨n + 1, z, J, by simp, by omega, rfl, hz, by rw [Nat.min_eq_right (by omega)]; exact HE.out, HO2.out⟩
        case measure => simp [intOf]; omega
    · have hgI : ¬ (n : Int) < 20 := by omega
      have hJ16 : J.length = 16 := by omega
      have cL := lenO_any w wr K J HT.out (by omega)
      rw [hJ16] at cL
      go_wp2_with fail
      refine cL.mono ?_
      rintro e w10 ⟨rfl, rfl⟩
      go_wp2
      go_ret
      exact ⟨rfl, HT.out.bel⟩
end Go.Proofs.Ytgjailjnnbpbdaa
