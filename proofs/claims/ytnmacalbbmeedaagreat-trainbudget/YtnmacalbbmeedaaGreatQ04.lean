/- Texts in one: NvJ, IntE, NvR. -/
import Derived.Test.YtnmacalbbmeedaaGreatQ03
/- The document's own Join, walked. -/
namespace Go.Proofs.YtnmacalbbmeedaaGreat
open Go.RowKit

set_option maxRecDepth 100000 in
set_option maxHeartbeats 4000000 in
theorem rjoin_any (m : Mg) (x : Value) (W : List ByteArray) (w : World) (hx : eltsAt textE w x W) (hl : W.length ≤ 1000000) (hm : m.1.size + m.2.size ≤ 1000000) :
    Calls Tryz.prog 39 #[x, .agg #[.string m.1, .string m.2]] w fun e w' => JnRet m W w e w' := by
  obtain ⟨m1, m2⟩ := m
  obtain ⟨M, hM⟩ : ∃ M, w.heap.size = M := ⟨_, rfl⟩
  obtain ⟨wa, hwa⟩ : ∃ wa, w.alloc (.cells #[.string m1, .string m2] 42) = wa := ⟨_, rfl⟩
  have hba : wa.heap[M]? = some (.cells #[.string m1, .string m2] 42 (0, 0)) := by rw [← hwa, ← hM]; exact heap_alloc_new w _
  have hbe : Below w.heap.size w wa := by rw [← hwa]; exact (Below.refl _ w).alloc (Nat.le_refl _) _
  obtain ⟨a, cap, rfl, _⟩ := id hx
  obtain ⟨N, hN⟩ : ∃ N, W.length = N := ⟨_, rfl⟩
  have hxa := hx.below hbe (Nat.le_refl _)
  rw [hN] at hxa ⊢
  have hsz : wa.heap.size = M + 1 := by rw [← hwa, World.size_alloc, hM]
  have HX := Lib.hid hxa
  have HBA := Lib.hid hba
  have HBE := Lib.hid hbe
  have HN := Lib.hid hN
  have HSZ := Lib.hid hsz
  have HM := Lib.hid hM
  have hNl : N ≤ 1000000 := by omega
  have HST : Hid (JnRel (m1, m2) W wa wa.heap.size (.slice none 0 0) (.int .i64 ((0 : Nat) : Int)) wa) := Lib.hid ⟨0, [], rfl, Nat.zero_le _, by simp, Nat.le_refl _, ownE.nil _ _, Below.refl _ _⟩
  clear hx hxa hba hbe hN hsz
  go_enter Tryz.func39, Tryz.ntmps39
  go_wp2
  go_loopw [5, 6] (fun v i wr => JnRel (m1, m2) W wa wa.heap.size v i wr) (fun _ i _ => N - (intOf i).toNat)
  case atStart => exact HST.out
  case round =>
    clear HST hwa hM
    obtain ⟨k, O, rfl, hk, hO, hOl, ho, hbel⟩ := hrel
    have HO := Lib.hid ho; have HB := Lib.hid hbel; have HJ := Lib.hid hO; have HOL : Hid (O.length ≤ k) := Lib.hid hOl
    have HWP : Hid (∀ j (h : j < W.length), ∀ ad, a = some ad → ∀ W', Below wa.heap.size wa W' → W'.cell? (ad.add j) = some (.string W[j])) := Lib.hid fun j h ad e W' hb' => by
      subst e
      have h1 := HX.out
      rw [← HN.out] at h1
      exact txt_cell h1 hb' h
    have hmb := (hbel.block M (by rw [HSZ.out]; omega)).trans HBA.out
    have b0 : wr.cell? ⟨M, 0, none⟩ = some (.string m1) := by rw [cell_of_row wr M _ _ 42 (0, 0) hmb]; rfl
    have b1 : wr.cell? ⟨M, 1, none⟩ = some (.string m2) := by rw [cell_of_row wr M _ _ 42 (0, 0) hmb]; rfl
    rw [HN.out] at hk
    clear ho hbel hO hOl hmb
    by_cases hgo : k < N
    · have hgoI : (k : Int) < (N : Int) := by omega
      have hkW : k < W.length := by rw [HN.out]; exact hgo
      obtain ⟨j, hj⟩ : ∃ j : Nat, k + 1 = j := ⟨_, rfl⟩
      have HJK := Lib.hid hj
      have hwk : IntKind.i64.wrap ((k : Int) + 1) = (j : Int) := by rw [← hj]; exact IntWalk.i64_in _ (by omega)
      have hj0 : (0 : Int) ≤ (j : Int) := by omega
      clear hj
      have hwk2 : IntKind.i64.wrap ((k : Int) + 2) = (k : Int) + 2 := IntWalk.i64_in _ (by omega)
      obtain ⟨ad, rfl⟩ : ∃ ad, a = some ad := by
        obtain ⟨_, _, e1, hc⟩ := HX.out
        obtain ⟨ad, e2, _⟩ := hc k hkW
        exact ⟨ad, (Value.slice.inj e1).1.trans e2⟩
      obtain ⟨z, hz⟩ : ∃ z, W[k] = z := ⟨_, rfl⟩
      have c0 := HWP.out k hkW ad rfl wr HB.out
      rw [hz] at c0
      have HZ := Lib.hid hz
      clear hz
      have hD1 : ∀ o : Obj, Below wa.heap.size wa (wr.alloc o) := fun o => HB.out.alloc HB.out.size _
      have HSIZ : Hid (wa.heap.size ≤ wr.heap.size) := Lib.hid HB.out.size
      have keep : (∀ h' : k + 1 < W.length, ¬ (z = m1 ∧ W[k + 1] = m2)) → O ++ [z] ++ joinT (m1, m2) (W.drop (k + 1)) = joinT (m1, m2) W := fun hn => by
        have e := join_next (m := (m1, m2)) hkW (by rw [HZ.out]; exact hn)
        rw [← HJ.out, e, HZ.out]
        simp
      have HKP := Lib.hid keep
      clear keep
      by_cases hlast : k + 1 < N
      · have hlastI : (j : Int) < (N : Int) := by have := HJK.out; omega
        have hkW1 : k + 1 < W.length := by rw [HN.out]; exact hlast
        obtain ⟨y, hy⟩ : ∃ y, W[k + 1] = y := ⟨_, rfl⟩
        have c1 := HWP.out (k + 1) hkW1 ad rfl wr HB.out
        rw [hy, HJK.out] at c1
        have HY := Lib.hid hy
        clear hy
        by_cases e1 : z = m1
        · subst e1
          by_cases e2 : y = m2
          · subst e2
            have HJP : Hid (O ++ [z ++ y] ++ joinT (z, y) (W.drop (k + 2)) = joinT (z, y) W) := Lib.hid (by
              have e := join_pair (m := (z, y)) hkW1 HZ.out HY.out
              rw [← HJ.out, e]
              simp)
            go_wp2_with fail
            refine wp_region_quiet_lit (by kernel_rfl) (by kernel_rfl) ?_
            repeat (first | go_big_quiet_skip | quiet_step (fail))
            refine wpQuiet_nil ?_
            intro _ hqq
            obtain ⟨nq, hq2⟩ := hqq
            subst hq2
            have HB2 : Hid (Below wa.heap.size wa (wr.drewN nq)) := Lib.hid (below_drewN' HB.out nq)
            have HO2 : Hid (ownE textE (wr.drewN nq) wa.heap.size u5 O) := Lib.hid (HO.out.drewN nq)
            have c0q : (wr.drewN nq).cell? (ad.add k) = some (.string z) := c0
            have b0q : (wr.drewN nq).cell? ⟨M, 0, none⟩ = some (.string z) := b0
            have b1q : (wr.drewN nq).cell? ⟨M, 1, none⟩ = some (.string y) := b1
            clear b0 b1 c0
            generalize wr.drewN nq = wz at *
            have HA : Hid (ownE textE (wz.alloc (.cells #[.string (z ++ y)] 9)) wa.heap.size u5 O) := Lib.hid (HO2.out.alloc _)
            have HE : Hid (eltsAt textE (wz.alloc (.cells #[.string (z ++ y)] 9)) (.slice (some ⟨wz.heap.size, 0, none⟩) 1 1) [z ++ y]) := Lib.hid (one_elt textE wz _)
            have HZ2 : Hid (wa.heap.size ≤ (wz.alloc (.cells #[.string (z ++ y)] 9)).heap.size) := Lib.hid (by rw [World.size_alloc]; have := HB2.out.size; omega)
            go_wp2_with (at_builtin; refine wpList_append_elts textE rfl (.tmp 35) (.tmp 41) rfl wa.heap.size u5 _ O [z ++ y] rfl rfl HA.out HE.out (someNone _ _ _) (by have := HOL.out; simp; omega) HZ2.out ?_; intro r5 w5 hown5 hg5 _; have HO5 := Lib.hid hown5; have HG5 := Lib.hid hg5; clear hown5 hg5)
            go_roundw
            case measure => simp [intOf]; have := HJK.out; omega
            case rel => exact ⟨k + 2, O ++ [z ++ y], by simp, by rw [HN.out]; omega, HJP.out, by have := HOL.out; simp; omega, HO5.out, (HB2.out.alloc HB2.out.size _).grown HG5.out HZ2.out fun g e => (HO2.out.lt g e).1⟩
          · have hne := text_ne e2
            have HJP : Hid (O ++ [z] ++ joinT (z, m2) (W.drop (k + 1)) = joinT (z, m2) W) := Lib.hid (HKP.out fun h e => e2 (by rw [← HY.out]; exact e.2))
            go_wp2_with fail
            refine wp_region_quiet_lit (by kernel_rfl) (by kernel_rfl) ?_
            repeat (first | go_big_quiet_skip | quiet_step (fail))
            refine wpQuiet_nil ?_
            intro _ hqq
            obtain ⟨nq, hq2⟩ := hqq
            subst hq2
            have HB2 : Hid (Below wa.heap.size wa (wr.drewN nq)) := Lib.hid (below_drewN' HB.out nq)
            have HO2 : Hid (ownE textE (wr.drewN nq) wa.heap.size u5 O) := Lib.hid (HO.out.drewN nq)
            have c0q : (wr.drewN nq).cell? (ad.add k) = some (.string z) := c0
            have b0q : (wr.drewN nq).cell? ⟨M, 0, none⟩ = some (.string z) := b0
            have b1q : (wr.drewN nq).cell? ⟨M, 1, none⟩ = some (.string m2) := b1
            clear b0 b1 c0
            generalize wr.drewN nq = wz at *
            have HA : Hid (ownE textE (wz.alloc (.cells #[.string (z)] 9)) wa.heap.size u5 O) := Lib.hid (HO2.out.alloc _)
            have HE : Hid (eltsAt textE (wz.alloc (.cells #[.string (z)] 9)) (.slice (some ⟨wz.heap.size, 0, none⟩) 1 1) [z]) := Lib.hid (one_elt textE wz _)
            have HZ2 : Hid (wa.heap.size ≤ (wz.alloc (.cells #[.string (z)] 9)).heap.size) := Lib.hid (by rw [World.size_alloc]; have := HB2.out.size; omega)
            go_wp2_with (at_builtin; refine wpList_append_elts textE rfl (.tmp 45) (.tmp 50) rfl wa.heap.size u5 _ O [z] rfl rfl HA.out HE.out (someNone _ _ _) (by have := HOL.out; simp; omega) HZ2.out ?_; intro r5 w5 hown5 hg5 _; have HO5 := Lib.hid hown5; have HG5 := Lib.hid hg5; clear hown5 hg5)
            go_roundw
            case measure => simp [intOf]; have := HJK.out; omega
            case rel => exact ⟨k + 1, O ++ [z], by rw [HJK.out], by rw [HN.out]; omega, HJP.out, by have := HOL.out; simp; omega, HO5.out, (HB2.out.alloc HB2.out.size _).grown HG5.out HZ2.out fun g e => (HO2.out.lt g e).1⟩
        · have hne := text_ne e1
          have HJP : Hid (O ++ [z] ++ joinT (m1, m2) (W.drop (k + 1)) = joinT (m1, m2) W) := Lib.hid (HKP.out fun h e => e1 e.1)
          go_wp2_with fail
          refine wp_region_quiet_lit (by kernel_rfl) (by kernel_rfl) ?_
          repeat (first | go_big_quiet_skip | quiet_step (fail))
          refine wpQuiet_nil ?_
          intro _ hqq
          obtain ⟨nq, hq2⟩ := hqq
          subst hq2
          have HB2 : Hid (Below wa.heap.size wa (wr.drewN nq)) := Lib.hid (below_drewN' HB.out nq)
          have HO2 : Hid (ownE textE (wr.drewN nq) wa.heap.size u5 O) := Lib.hid (HO.out.drewN nq)
          have c0q : (wr.drewN nq).cell? (ad.add k) = some (.string z) := c0
          have b0q : (wr.drewN nq).cell? ⟨M, 0, none⟩ = some (.string m1) := b0
          have b1q : (wr.drewN nq).cell? ⟨M, 1, none⟩ = some (.string m2) := b1
          clear b0 b1 c0
          generalize wr.drewN nq = wz at *
          have HA : Hid (ownE textE (wz.alloc (.cells #[.string (z)] 9)) wa.heap.size u5 O) := Lib.hid (HO2.out.alloc _)
          have HE : Hid (eltsAt textE (wz.alloc (.cells #[.string (z)] 9)) (.slice (some ⟨wz.heap.size, 0, none⟩) 1 1) [z]) := Lib.hid (one_elt textE wz _)
          have HZ2 : Hid (wa.heap.size ≤ (wz.alloc (.cells #[.string (z)] 9)).heap.size) := Lib.hid (by rw [World.size_alloc]; have := HB2.out.size; omega)
          go_wp2_with (at_builtin; refine wpList_append_elts textE rfl (.tmp 45) (.tmp 50) rfl wa.heap.size u5 _ O [z] rfl rfl HA.out HE.out (someNone _ _ _) (by have := HOL.out; simp; omega) HZ2.out ?_; intro r5 w5 hown5 hg5 _; have HO5 := Lib.hid hown5; have HG5 := Lib.hid hg5; clear hown5 hg5)
          go_roundw
          case measure => simp [intOf]; have := HJK.out; omega
          case rel => exact ⟨k + 1, O ++ [z], by rw [HJK.out], by rw [HN.out]; omega, HJP.out, by have := HOL.out; simp; omega, HO5.out, (HB2.out.alloc HB2.out.size _).grown HG5.out HZ2.out fun g e => (HO2.out.lt g e).1⟩
      · have hlastI : ¬ (j : Int) < (N : Int) := by have := HJK.out; omega
        have hdl : decide ((j : Int) < (N : Int)) = false := decide_eq_false hlastI
        have hdn : decide (j < N) = false := decide_eq_false (by omega)
        have HJP : Hid (O ++ [z] ++ joinT (m1, m2) (W.drop (k + 1)) = joinT (m1, m2) W) := Lib.hid (HKP.out fun h e => hlast (by rw [← HN.out]; exact h))
        go_wp2_with fail
        refine wp_region_quiet_lit (by kernel_rfl) (by kernel_rfl) ?_
        repeat (first | go_big_quiet_skip | quiet_step (fail))
        refine wpQuiet_nil ?_
        intro _ hqq
        obtain ⟨nq, hq2⟩ := hqq
        subst hq2
        have HB2 : Hid (Below wa.heap.size wa (wr.drewN nq)) := Lib.hid (below_drewN' HB.out nq)
        have HO2 : Hid (ownE textE (wr.drewN nq) wa.heap.size u5 O) := Lib.hid (HO.out.drewN nq)
        have c0q : (wr.drewN nq).cell? (ad.add k) = some (.string z) := c0
        have b0q : (wr.drewN nq).cell? ⟨M, 0, none⟩ = some (.string m1) := b0
        have b1q : (wr.drewN nq).cell? ⟨M, 1, none⟩ = some (.string m2) := b1
        clear b0 b1 c0
        generalize wr.drewN nq = wz at *
        have HA : Hid (ownE textE (wz.alloc (.cells #[.string (z)] 9)) wa.heap.size u5 O) := Lib.hid (HO2.out.alloc _)
        have HE : Hid (eltsAt textE (wz.alloc (.cells #[.string (z)] 9)) (.slice (some ⟨wz.heap.size, 0, none⟩) 1 1) [z]) := Lib.hid (one_elt textE wz _)
        have HZ2 : Hid (wa.heap.size ≤ (wz.alloc (.cells #[.string (z)] 9)).heap.size) := Lib.hid (by rw [World.size_alloc]; have := HB2.out.size; omega)
        go_wp2_with (at_builtin; refine wpList_append_elts textE rfl (.tmp 45) (.tmp 50) rfl wa.heap.size u5 _ O [z] rfl rfl HA.out HE.out (someNone _ _ _) (by have := HOL.out; simp; omega) HZ2.out ?_; intro r5 w5 hown5 hg5 _; have HO5 := Lib.hid hown5; have HG5 := Lib.hid hg5; clear hown5 hg5)
        go_roundw
        case measure => simp [intOf]; have := HJK.out; omega
        case rel => exact ⟨k + 1, O ++ [z], by rw [HJK.out], by rw [HN.out]; omega, HJP.out, by have := HOL.out; simp; omega, HO5.out, (HB2.out.alloc HB2.out.size _).grown HG5.out HZ2.out fun g e => (HO2.out.lt g e).1⟩
    · have hgoI : ¬ (k : Int) < (N : Int) := by omega
      have HD : Hid (O = joinT (m1, m2) W) := Lib.hid (by
        have h1 := HJ.out
        rw [List.drop_of_length_le (by rw [HN.out]; omega)] at h1
        simpa [joinT] using h1)
      go_wp2
      go_ret
      exact ⟨_, rfl, by rw [← HD.out]; exact HO.out.mono HBE.out.size, HBE.out.trans (HB.out.mono HBE.out.size)⟩
end Go.Proofs.YtnmacalbbmeedaaGreat
/- Rows of numbers as elements of one cell: read, owned, cut. -/
namespace Go.Proofs.YtnmacalbbmeedaaGreat
open Go.RowKit

def intE : Elt Int where
  ty := 3
  sl := 87
  n := 1
  bytes := 8
  zero := .int .i64 0
  enc := fun t => [.int .i64 t]
  under := Tryz.underlying87
  info := by kernel_rfl
  pos := by decide
  small := by decide
  zlen := by kernel_rfl
  len := fun _ => rfl
  one := fun x u hu => by
    simp only [List.mem_cons, List.not_mem_nil, or_false] at hu
    rcases hu with rfl; rfl
set_option maxRecDepth 100000 in
theorem ints_cell {w wr : World} {L : List Int} {ad : Addr} {n cap : Nat} (h : eltsAt intE w (.slice (some ad) n cap) L) (hb : Below w.heap.size w wr) {k : Nat} (hk : k < L.length) : wr.cell? (ad.add k) = some (.int .i64 L[k]) := by
  have := elts_at h hb hk 0 _ rfl
  rwa [show intE.n = 1 from rfl, Nat.mul_one, Nat.add_zero] at this
set_option maxRecDepth 100000 in
theorem sizeInts (w : World) : (sizeOf (Tryz.prog.elem 87)).run Tryz.prog w = .ok 1 w := by
  obtain ⟨j0, hj, hy0, hy1, hy2⟩ := info_parts intE.info
  have he : Tryz.prog.elem 87 = intE.ty := by kernel_rfl
  rw [he]
  simp [sizeOf, typeInfo, hj, hy1]
  rfl
set_option maxRecDepth 100000 in
theorem elemInts : Tryz.prog.underlying 87 = some (.slice (Tryz.prog.elem 87)) := by kernel_rfl
set_option maxRecDepth 100000 in
/-- 'x[l:]' of a row of numbers. -/
theorem ints_tail (a : Option Addr) (len cap l : Nat) (K : Int) (hK : K = (l : Int)) (hl : l ≤ len) (hc : len ≤ cap) (hn : nilNone (.slice a len cap)) : ∃ v, (∀ w, (Instr.slice 87 (.slice a len cap) (some (.int .i64 K)) none none).run Tryz.prog w = .ok v w) ∧ nilNone v ∧
    ∀ w L, eltsAt intE w (.slice a len cap) L → eltsAt intE w v (L.drop l) := by
  subst hK
  refine ⟨sliced a l len cap 1, fun w => ?_, ?_, ?_⟩
  · rw [run_slice_l w 87 a len cap elemInts .i64 l (by omega) (by omega), sizeInts]
    simp
  · intro n c e
    unfold sliced at e
    cases a with
    | none => have := hn _ _ rfl; subst this; simp at e; omega
    | some a => simp at e; split at e <;> simp at e
  · rintro w L ⟨a', cap', e, hcL⟩
    obtain ⟨rfl, rfl, rfl⟩ := Value.slice.inj e
    unfold sliced
    refine ⟨_, cap - l, by rw [List.length_drop], fun j hj => ?_⟩
    rw [List.length_drop] at hj
    obtain ⟨ad, rfl, hlt, hcj⟩ := hcL (l + j) (by omega)
    refine ⟨ad.add l, ?_, by rw [add_block]; exact hlt, fun i u hu => ?_⟩
    · rw [if_neg (by omega)]; simp
    · rw [List.getElem_drop] at hu
      have := hcj i u hu
      rw [show intE.n = 1 from rfl] at this ⊢
      rw [add_add_any, show l + (j * 1 + i) = (l + j) * 1 + i by omega]
      exact this
end Go.Proofs.YtnmacalbbmeedaaGreat
/- Rows of rows of texts; how often a pair is there, as plain sums. -/
namespace Go.Proofs.YtnmacalbbmeedaaGreat
open Go.RowKit

/-- A row of texts as an element. -/
abbrev Hs := Option Addr × Nat × Nat
def hsV (e : Hs) : Value := .slice e.1 e.2.1 e.2.2
def slTE : Elt Hs where
  ty := 52
  sl := 47
  n := 1
  bytes := 24
  zero := .slice none 0 0
  enc := fun e => [.slice e.1 e.2.1 e.2.2]
  under := Tryz.underlying47
  info := by kernel_rfl
  pos := by decide
  small := by decide
  zlen := by kernel_rfl
  len := fun _ => rfl
  one := fun x u hu => by
    simp only [List.mem_cons, List.not_mem_nil, or_false] at hu
    rcases hu with rfl; rfl
/-- The slice value v reads as rows of texts. -/
def rowsT (w : World) (v : Value) (WW : List (List ByteArray)) : Prop := ∃ E : List Hs, E.length = WW.length ∧ eltsAt slTE w v E ∧ ∀ i (h : i < E.length) (h' : i < WW.length), eltsAt textE w (hsV E[i]) WW[i] ∧ nilNone (hsV E[i])
set_option maxRecDepth 100000 in
theorem rowsT.below {w w' : World} {v : Value} {WW : List (List ByteArray)} (h : rowsT w v WW) (hb : Below w.heap.size w w') : rowsT w' v WW := by
  obtain ⟨E, h1, h2, h3⟩ := h
  exact ⟨E, h1, h2.below hb (Nat.le_refl _), fun i a b => ⟨(h3 i a b).1.below hb (Nat.le_refl _), (h3 i a b).2⟩⟩
set_option maxRecDepth 100000 in
theorem rowsT.form {w : World} {v : Value} {WW : List (List ByteArray)} (h : rowsT w v WW) : ∃ a cap, v = .slice a WW.length cap := by
  obtain ⟨E, h1, ⟨a, cap, e, _⟩, _⟩ := h
  exact ⟨a, cap, by rw [e, h1]⟩
set_option maxRecDepth 100000 in
/-- One row. -/
theorem rowsT.at {w wr : World} {a : Option Addr} {n cap : Nat} {WW : List (List ByteArray)} (h : rowsT w (.slice a n cap) WW) (hb : Below w.heap.size w wr) {i : Nat} (hi : i < WW.length) :
    ∃ ad ai ci, a = some ad ∧ wr.cell? (ad.add i) = some (.slice ai WW[i].length ci) ∧ eltsAt textE wr (.slice ai WW[i].length ci) WW[i] ∧ nilNone (.slice ai WW[i].length ci) := by
  obtain ⟨E, h1, h2, h3⟩ := h
  have hE : i < E.length := by omega
  obtain ⟨a', cap', e, hc⟩ := id h2
  cases e
  obtain ⟨ad, rfl, _, _⟩ := hc i hE
  have hx := elts_at h2 hb hE 0 _ rfl
  rw [show i * slTE.n + 0 = i by show i * 1 + 0 = i; omega] at hx
  obtain ⟨r1, r2⟩ := h3 i hE hi
  obtain ⟨⟨ei, en, ec⟩, hEi⟩ : ∃ e, E[i] = e := ⟨_, rfl⟩
  rw [hEi] at hx r1 r2
  unfold hsV at r1 r2
  simp only at hx r1 r2
  obtain ⟨_, _, e2, _⟩ := id r1
  obtain ⟨rfl, rfl, rfl⟩ := Value.slice.inj e2
  exact ⟨ad, ei, ec, rfl, hx, r1.below hb (Nat.le_refl _), r2⟩
set_option maxRecDepth 100000 in
/-- One text of a row. -/
theorem text_in {w wr : World} {a : Option Addr} {n cap : Nat} {L : List ByteArray} (h : eltsAt textE w (.slice a n cap) L) (hb : Below w.heap.size w wr) {k : Nat} (hk : k < L.length) : ∃ ad, a = some ad ∧ wr.cell? (ad.add k) = some (.string L[k]) := by
  obtain ⟨a', cap', e, hc⟩ := id h
  cases e
  obtain ⟨ad, rfl, _, _⟩ := hc k hk
  exact ⟨ad, rfl, txt_cell h hb hk⟩
/-! Sums. -/
set_option maxRecDepth 100000 in
theorem tcnt_take_one (m : Mg) (w : List ByteArray) : cntT m (w.take 1) = 0 := by
  cases w with
  | nil => rfl
  | cons x r => rfl
set_option maxRecDepth 100000 in
theorem tcnt_take {m : Mg} : ∀ {w : List ByteArray} {k : Nat} (h : k + 1 < w.length), cntT m (w.take (k + 2)) = cntT m (w.take (k + 1)) + (if w[k]'(by omega) = m.1 ∧ w[k + 1] = m.2 then 1 else 0)
  | x :: y :: r, 0, h => by
    show (if x = m.1 ∧ y = m.2 then 1 else 0) + cntT m [y] = 0 + _
    simp [cntT]
  | x :: y :: r, k + 1, h => by
    have ih := tcnt_take (m := m) (w := y :: r) (k := k) (by simpa using h)
    show (if x = m.1 ∧ y = m.2 then 1 else 0) + cntT m ((y :: r).take (k + 2)) = (if x = m.1 ∧ y = m.2 then 1 else 0) + cntT m ((y :: r).take (k + 1)) + _
    rw [ih]
    simp only [List.getElem_cons_succ]
    omega
set_option maxRecDepth 100000 in
theorem tcnt_le (m : Mg) : ∀ w : List ByteArray, cntT m w ≤ w.length - 1
  | [] => by simp [cntT]
  | [x] => by simp [cntT]
  | x :: y :: r => by
    have := tcnt_le m (y :: r)
    unfold cntT
    simp only [List.length_cons] at *
    split <;> omega
/-- The greatest that may come of it. -/
def capW : List (List ByteArray) → List Int → Int
  | W :: R, c :: C => (if 1 ≤ c then ((W.length - 1 : Nat) : Int) * c else 0) + capW R C
  | _, _ => 0
set_option maxRecDepth 100000 in
theorem capW_cons (w : List ByteArray) (R : List (List ByteArray)) (c : Int) (C : List Int) : capW (w :: R) (c :: C) = (if 1 ≤ c then ((w.length - 1 : Nat) : Int) * c else 0) + capW R C := rfl
set_option maxRecDepth 100000 in
theorem cntW_cons (m : Mg) (w : List ByteArray) (R : List (List ByteArray)) (c : Int) (C : List Int) : cntW m (w :: R) (c :: C) = (if 1 ≤ c then (cntT m w : Int) * c else 0) + cntW m R C := rfl
set_option maxRecDepth 100000 in
theorem capW_pos : ∀ (W : List (List ByteArray)) (C : List Int), 0 ≤ capW W C
  | [], _ => by simp [capW]
  | _ :: _, [] => by simp [capW]
  | w :: R, c :: C => by
    have := capW_pos R C
    unfold capW
    split
    · have : 0 ≤ ((w.length - 1 : Nat) : Int) * c := Int.mul_nonneg (by omega) (by omega)
      omega
    · omega
set_option maxRecDepth 100000 in
theorem cntW_le (m : Mg) : ∀ (W : List (List ByteArray)) (C : List Int), 0 ≤ cntW m W C ∧ cntW m W C ≤ capW W C
  | [], _ => by simp [capW, cntW]
  | _ :: _, [] => by simp [capW, cntW]
  | w :: R, c :: C => by
    have ih := cntW_le m R C
    have hc := tcnt_le m w
    unfold capW cntW
    split
    · have h1 : 0 ≤ (cntT m w : Int) * c := Int.mul_nonneg (by omega) (by omega)
      have h2 : (cntT m w : Int) * c ≤ ((w.length - 1 : Nat) : Int) * c := Int.mul_le_mul_of_nonneg_right (by omega) (by omega)
      omega
    · omega
set_option maxRecDepth 100000 in
/-- The first i words; what comes behind them. -/
theorem cntW_split (m : Mg) : ∀ (W : List (List ByteArray)) (C : List Int) (i : Nat), cntW m W C = cntW m (W.take i) (C.take i) + cntW m (W.drop i) (C.drop i)
  | [], C, i => by simp [cntW]
  | w :: R, [], i => by cases i <;> simp [cntW]
  | w :: R, c :: C, 0 => by simp [cntW]
  | w :: R, c :: C, i + 1 => by
    have ih := cntW_split m R C i
    rw [List.take_succ_cons, List.take_succ_cons, List.drop_succ_cons, List.drop_succ_cons, cntW_cons, cntW_cons]
    omega
set_option maxRecDepth 100000 in
theorem capW_split : ∀ (W : List (List ByteArray)) (C : List Int) (i : Nat), capW W C = capW (W.take i) (C.take i) + capW (W.drop i) (C.drop i)
  | [], C, i => by simp [capW]
  | w :: R, [], i => by cases i <;> simp [capW]
  | w :: R, c :: C, 0 => by simp [capW]
  | w :: R, c :: C, i + 1 => by
    have ih := capW_split R C i
    rw [List.take_succ_cons, List.take_succ_cons, List.drop_succ_cons, List.drop_succ_cons, capW_cons, capW_cons]
    omega
set_option maxRecDepth 100000 in
theorem cntW_next {m : Mg} {W : List (List ByteArray)} {C : List Int} {i : Nat} (h : i < W.length) (h' : i < C.length) : cntW m (W.take (i + 1)) (C.take (i + 1)) = cntW m (W.take i) (C.take i) + (if 1 ≤ C[i] then (cntT m W[i] : Int) * C[i] else 0) := by
  have e := cntW_split m (W.take (i + 1)) (C.take (i + 1)) i
  rw [List.take_take, List.take_take, Nat.min_eq_left (by omega)] at e
  rw [e]
  have e1 : (W.take (i + 1)).drop i = [W[i]] := by rw [List.take_succ_eq_append_getElem h, List.drop_append_of_le_length (by rw [List.length_take]; omega), List.drop_of_length_le (by rw [List.length_take]; omega)]; rfl
  have e2 : (C.take (i + 1)).drop i = [C[i]] := by rw [List.take_succ_eq_append_getElem h', List.drop_append_of_le_length (by rw [List.length_take]; omega), List.drop_of_length_le (by rw [List.length_take]; omega)]; rfl
  rw [e1, e2]
  simp [cntW]
set_option maxRecDepth 100000 in
/-- What is counted in the midst of a word stays within. -/
theorem cntW_mid {m : Mg} {W : List (List ByteArray)} {C : List Int} {i : Nat} (h : i < W.length) (h' : i < C.length) (hc : 1 ≤ C[i]) (k : Nat) : cntW m (W.take i) (C.take i) + (cntT m (W[i].take k) : Int) * C[i] ≤ capW W C := by
  have h1 := capW_split W C i
  have h2 := (cntW_le m (W.take i) (C.take i)).2
  have h3 : capW (W.drop i) (C.drop i) = ((W[i].length - 1 : Nat) : Int) * C[i] + capW (W.drop (i + 1)) (C.drop (i + 1)) := by
    rw [List.drop_eq_getElem_cons h, List.drop_eq_getElem_cons h', capW_cons, if_pos hc]
  have h4 := capW_pos (W.drop (i + 1)) (C.drop (i + 1))
  have h5 := tcnt_le m (W[i].take k)
  have h6 : (W[i].take k).length ≤ W[i].length := by rw [List.length_take]; omega
  have h7 : (cntT m (W[i].take k) : Int) * C[i] ≤ ((W[i].length - 1 : Nat) : Int) * C[i] := Int.mul_le_mul_of_nonneg_right (by omega) (by omega)
  omega
set_option maxRecDepth 100000 in
theorem cntW_all {m : Mg} {W : List (List ByteArray)} {C : List Int} {i : Nat} (h : W.length ≤ i ∨ C.length ≤ i) : cntW m (W.take i) (C.take i) = cntW m W C := by
  have e := cntW_split m W C i
  have : cntW m (W.drop i) (C.drop i) = 0 := by
    rcases h with h | h
    · rw [List.drop_of_length_le h]; rfl
    · rw [List.drop_of_length_le h]
      cases W.drop i <;> rfl
  omega
end Go.Proofs.YtnmacalbbmeedaaGreat
