/- Texts in one: NvW. -/
import Derived.Test.YtnmacalbbmeedaaGreatQ05
import Derived.Test.YtnmacalbbmeedaaGreatQ06
import Derived.Test.YtnmacalbbmeedaaGreatQ07
/- The document's own Best, walked. (Its text by wip/tools/gen_nvbest.py.) -/
namespace Go.Proofs.YtnmacalbbmeedaaGreat
open Go.RowKit

/-- The worlds of Best: its result's box N4, the best one's box Bb, the row of what was seen. -/
structure BSt (w : World) (N4 Bb base : Nat) (v : Value) (S : List Mg) (b : Mg) (W : World) : Prop where
  bel : Below w.heap.size w W
  res : W.heap[N4]? = some (.cells #[.string ⟨#[]⟩, .string ⟨#[]⟩] 42 (0, 0))
  box : W.heap[Bb]? = some (.cells #[.string b.1, .string b.2] 42 (0, 0))
  row : ownE mergeE W base v S
  lo : w.heap.size ≤ N4 ∧ N4 < Bb ∧ Bb < base ∧ base ≤ W.heap.size
variable {w W W' : World} {N4 Bb base : Nat} {v r : Value} {S S' : List Mg} {b : Mg}
set_option maxRecDepth 100000 in
theorem BSt.drewN (h : BSt w N4 Bb base v S b W) (n : Nat) : BSt w N4 Bb base v S b (W.drewN n) := ⟨below_drewN' h.bel n, h.res, h.box, h.row.drewN n, h.lo⟩
set_option maxRecDepth 100000 in
theorem BSt.below (h : BSt w N4 Bb base v S b W) (hb : Below W.heap.size W W') : BSt w N4 Bb base v S b W' :=
  ⟨h.bel.trans (hb.mono h.bel.size), (hb.block N4 (by have := h.lo; omega)).trans h.res, (hb.block Bb (by have := h.lo; omega)).trans h.box, h.row.below hb, by have := h.lo; have := hb.size; omega⟩
set_option maxRecDepth 100000 in
theorem BSt.alloc (h : BSt w N4 Bb base v S b W) (o : Obj) : BSt w N4 Bb base v S b (W.alloc o) := h.below ((Below.refl _ W).alloc (Nat.le_refl _) o)
set_option maxRecDepth 100000 in
theorem BSt.other (h : BSt w N4 Bb base v S b W) (k : Nat) (hk : base ≤ k) (hv : v.ownBlock ≠ some k) (p q : Value) : BSt w N4 Bb base v S b ((W.setCell ⟨k, 0, none⟩ p).setCell ⟨k, 1, none⟩ q) := by
  have hne : ∀ j, j ≠ k → ((W.setCell ⟨k, 0, none⟩ p).setCell ⟨k, 1, none⟩ q).heap[j]? = W.heap[j]? := fun j hj => by rw [Below.heap_setCell _ ⟨k, 1, none⟩ _ j hj, Below.heap_setCell _ ⟨k, 0, none⟩ _ j hj]
  have hl := h.lo
  exact ⟨(h.bel.setCell (p := ⟨k, 0, none⟩) (show w.heap.size ≤ k by omega) p).setCell (p := ⟨k, 1, none⟩) (show w.heap.size ≤ k by omega) q, (hne N4 (by omega)).trans h.res, (hne Bb (by omega)).trans h.box,
    h.row.kept fun g hg => hne g fun e => hv (by rw [← e]; exact hg), by simpa using h.lo⟩
set_option maxRecDepth 100000 in
theorem BSt.set (h : BSt w N4 Bb base v S b W) (b' : Mg) : BSt w N4 Bb base v S b' ((W.setCell ⟨Bb, 0, none⟩ (.string b'.1)).setCell ⟨Bb, 1, none⟩ (.string b'.2)) := by
  have hne : ∀ j, j ≠ Bb → ((W.setCell ⟨Bb, 0, none⟩ (.string b'.1)).setCell ⟨Bb, 1, none⟩ (.string b'.2)).heap[j]? = W.heap[j]? := fun j hj => by rw [Below.heap_setCell _ ⟨Bb, 1, none⟩ _ j hj, Below.heap_setCell _ ⟨Bb, 0, none⟩ _ j hj]
  have hl := h.lo
  exact ⟨(h.bel.setCell (p := ⟨Bb, 0, none⟩) (show w.heap.size ≤ Bb by omega) _).setCell (p := ⟨Bb, 1, none⟩) (show w.heap.size ≤ Bb by omega) _, (hne N4 (by omega)).trans h.res,
    heap_setCell_at (heap_setCell_at h.box (i := 0) (.string b'.1)) (i := 1) (.string b'.2), h.row.kept fun g hg => hne g fun e => by have := (h.row.lt g hg).1; omega, by simpa using h.lo⟩
set_option maxRecDepth 100000 in
theorem BSt.app (h : BSt w N4 Bb base v S b W) (ho : ownE mergeE W' base r S') (hg : W.grownBy W' v.ownBlock) : BSt w N4 Bb base r S' b W' := by
  have hl := h.lo
  have hge : ∀ g, v.ownBlock = some g → base ≤ g := fun g e => (h.row.lt g e).1
  exact ⟨h.bel.grown hg h.bel.size fun g e => by have := hge g e; omega, (hg.block N4 (by omega) fun e => by have := hge _ e.symm; omega).trans h.res, (hg.block Bb (by omega) fun e => by have := hge _ e.symm; omega).trans h.box, ho, by have := hg.size; omega⟩
set_option maxRecDepth 100000 in
theorem BSt.bcells (h : BSt w N4 Bb base v S b W) : W.cell? ⟨Bb, 0, none⟩ = some (.string b.1) ∧ W.cell? ⟨Bb, 1, none⟩ = some (.string b.2) :=
  ⟨by rw [cell_of_row W Bb _ _ 42 (0, 0) h.box]; rfl, by rw [cell_of_row W Bb _ _ 42 (0, 0) h.box]; rfl⟩
set_option maxRecDepth 100000 in
theorem two_cells {k : Nat} {p q : Value} {t : TypeId} (h : W.heap[k]? = some (.cells #[p, q] t (0, 0))) : W.cell? ⟨k, 0, none⟩ = some p ∧ W.cell? ⟨k, 1, none⟩ = some q :=
  ⟨by rw [cell_of_row W k _ _ t (0, 0) h]; rfl, by rw [cell_of_row W k _ _ t (0, 0) h]; rfl⟩
set_option maxRecDepth 100000 in
theorem merge_eql_yes (a b : ByteArray) (w : World) : (binOp .eql 42 (.agg #[.string a, .string b]) (.agg #[.string a, .string b])).run Tryz.prog w = .ok (.bool true) w := by
  have u32 := Tryz.underlying42
  have u9 := Tryz.underlying9
  simp [go_sem, u32, u9]
set_option maxRecDepth 100000 in
theorem merge_eql_no {a b c d : ByteArray} (h : ¬ (a, b) = (c, d)) (w : World) : (binOp .eql 42 (.agg #[.string a, .string b]) (.agg #[.string c, .string d])).run Tryz.prog w = .ok (.bool false) w := by
  have u32 := Tryz.underlying42
  have u9 := Tryz.underlying9
  by_cases e : a = c
  · have e2 : ¬ b = d := fun k => h (by rw [e, k])
    subst e
    have := text_ne e2
    simp [go_sem, u32, u9, this]
  · have := text_ne e
    simp [go_sem, u32, u9, this]
set_option maxRecDepth 100000 in
theorem rowsT.row {a : Option Addr} {n cap : Nat} {WW : List (List ByteArray)} (h : rowsT w (.slice a n cap) WW) {i : Nat} (hi : i < WW.length) : ∃ ad ai ci, a = some ad ∧ ∀ W, Below w.heap.size w W → W.cell? (ad.add i) = some (.slice ai WW[i].length ci) ∧ eltsAt textE W (.slice ai WW[i].length ci) WW[i] := by
  obtain ⟨ad, ai, ci, e, h1, h2, _⟩ := h.at (Below.refl _ w) hi
  refine ⟨ad, ai, ci, e, fun W hW => ?_⟩
  obtain ⟨ad2, ai2, ci2, e2, k1, k2, _⟩ := h.at hW hi
  rw [e] at e2
  cases e2
  have hce : W.cell? (ad.add i) = w.cell? (ad.add i) := hW.cell (by rw [add_block]; have := block_of_cell h1; simpa [add_block] using this)
  rw [hce, h1] at k1
  obtain ⟨rfl, _, rfl⟩ := Value.slice.inj (Option.some.inj k1)
  exact ⟨by rw [hce, h1], k2⟩
def BtRel (WW : List (List ByteArray)) (C : List Int) (w : World) (N4 Bb base : Nat) (s v i : Value) (wr : World) : Prop :=
  ∃ (k : Nat) (S : List Mg) (b : Mg) (n : Int), i = .int .i64 (k : Int) ∧ k ≤ WW.length ∧ s = .int .i64 n ∧ BSt w N4 Bb base v S b wr ∧ BestIn WW C S b n ∧ SeenTo WW C S k [] 0 ∧ S.length ≤ allT (WW.take k) ∧ b.1.size ≤ 1000000 ∧ b.2.size ≤ 1000000
def BtIn (WW : List (List ByteArray)) (C : List Int) (w : World) (N4 Bb base i l A : Nat) (W : List ByteArray) (c : Int) (s v x : Value) (wr : World) : Prop :=
  ∃ (k : Nat) (S : List Mg) (b : Mg) (n : Int), x = .int .i64 (k : Int) ∧ k ≤ l ∧ s = .int .i64 n ∧ BSt w N4 Bb base v S b wr ∧ BestIn WW C S b n ∧ SeenTo WW C S i W k ∧ S.length ≤ A + k ∧ (c < 1 → k = 0) ∧ b.1.size ≤ 1000000 ∧ b.2.size ≤ 1000000
def BtOld (S : List Mg) (m : Mg) (w1 : World) (o x : Value) (wr : World) : Prop :=
  ∃ (k n : Nat) (f : Bool), x = .int .i64 (k : Int) ∧ k ≤ S.length ∧ o = .bool f ∧ (f = true ↔ m ∈ S.take k) ∧ wr = w1.drewN n
def BtRet (WW : List (List ByteArray)) (C : List Int) (w : World) (e : Ending) (w' : World) : Prop :=
  ∃ b n, BestRel WW C b n ∧ e = .returned (.tuple #[.agg #[.string b.1, .string b.2], .int .i64 n]) ∧ Below w.heap.size w w'
set_option maxRecDepth 100000 in
theorem all_take {WW : List (List ByteArray)} {i : Nat} (h : i < WW.length) : allT (WW.take (i + 1)) = allT (WW.take i) + WW[i].length := by
  unfold allT
  rw [List.take_succ_eq_append_getElem h, List.map_append, List.sum_append]
  simp
set_option maxRecDepth 100000 in
theorem all_take_le (WW : List (List ByteArray)) (i : Nat) : allT (WW.take i) ≤ allT WW := by
  have e : WW = WW.take i ++ WW.drop i := (List.take_append_drop i WW).symm
  have : allT WW = allT (WW.take i) + allT (WW.drop i) := by
    conv => lhs; rw [e]
    unfold allT
    rw [List.map_append, List.sum_append]
  omega
/-- What the region that names a pair reads. -/
abbrev AtW (ad ti : Addr) (i k j l ci : Nat) (z y : ByteArray) (W : World) : Prop := W.cell? (ad.add i) = some (.slice (some ti) l ci) ∧ W.cell? (ti.add k) = some (.string z) ∧ W.cell? (ti.add j) = some (.string y)
set_option maxRecDepth 100000 in
set_option maxHeartbeats 16000000 in
theorem rbest_any (x y : Value) (WW : List (List ByteArray)) (C : List Int) (w : World) (hx : rowsT w x WW) (hy : eltsAt intE w y C) (hl : WW.length ≤ 1000000) (hCl : C.length ≤ 9223372036854775807) (hall : allT WW ≤ 1000000) (hcap : capW WW C ≤ 9223372036854775807) (hsz : ∀ W ∈ WW, ∀ t ∈ W, t.size ≤ 1000000) :
    Calls Tryz.prog 45 #[x, y] w fun e w' => BtRet WW C w e w' := by
  have hmixed : Tryz.prog.follows .mixedOrders = true := by kernel_rfl
  obtain ⟨N4, hN4⟩ : ∃ M, w.heap.size = M := ⟨_, rfl⟩
  obtain ⟨a, cx, rfl⟩ := hx.form
  obtain ⟨ay, cy, rfl, _⟩ := id hy
  obtain ⟨N, hN⟩ : ∃ N, WW.length = N := ⟨_, rfl⟩
  obtain ⟨NC, hNC⟩ : ∃ N, C.length = N := ⟨_, rfl⟩
  have hln : ∀ i (h : i < WW.length), WW[i].length ≤ 1000000 := fun i h => by
    have h1 := all_take h
    have h2 := all_take_le WW (i + 1)
    omega
  have HX := Lib.hid hx
  have HY := Lib.hid hy
  have HN := Lib.hid hN
  have HNC := Lib.hid hNC
  have HLN := Lib.hid hln
  have HCAP := Lib.hid hcap
  have HALL := Lib.hid hall
  have HSZ := Lib.hid hsz
  have HN4 := Lib.hid hN4
  rw [hN, hNC]
  have hNl : N ≤ 1000000 := by omega
  have hNCl : NC ≤ 9223372036854775807 := by omega
  clear hx hy hN hNC hln hcap hall hsz
  go_enter Tryz.func45, Tryz.ntmps45
  go_wp2
  obtain ⟨w1, hw1⟩ : ∃ w1, (w.alloc (.cells #[.string ⟨#[]⟩, .string ⟨#[]⟩] 42)).alloc (.cells #[.string ⟨#[]⟩, .string ⟨#[]⟩] 42) = w1 := ⟨_, rfl⟩
  rw [hw1]
  obtain ⟨Bb, hBb⟩ : ∃ Bb, N4 + 1 = Bb := ⟨_, rfl⟩
  rw [hBb]
  obtain ⟨base, hbs⟩ : ∃ b, N4 + 2 = b := ⟨_, rfl⟩
  have hst0 : BSt w N4 Bb base (.slice none 0 0) [] noM w1 := by
    have hz : (w.alloc (.cells #[.string ⟨#[]⟩, .string ⟨#[]⟩] 42)).heap.size = Bb := by rw [World.size_alloc, hN4, hBb]
    have hz2 : w1.heap.size = base := by rw [← hw1, World.size_alloc, hz]; omega
    have ha : (w.alloc (.cells #[.string ⟨#[]⟩, .string ⟨#[]⟩] 42)).heap[N4]? = some (.cells #[.string ⟨#[]⟩, .string ⟨#[]⟩] 42 (0, 0)) := by rw [← hN4]; exact heap_alloc_new w _
    have hb : Below (w.alloc (.cells #[.string ⟨#[]⟩, .string ⟨#[]⟩] 42)).heap.size (w.alloc (.cells #[.string ⟨#[]⟩, .string ⟨#[]⟩] 42)) w1 := by rw [← hw1]; exact (Below.refl _ _).alloc (Nat.le_refl _) _
    refine ⟨((Below.refl _ w).alloc (Nat.le_refl _) _).trans (hb.mono (by rw [World.size_alloc]; omega)), (hb.block N4 (by omega)).trans ha, ?_, ownE.nil _ _, ⟨by omega, by omega, by omega, by omega⟩⟩
    rw [← hw1, ← hz]
    exact heap_alloc_new _ _
  have HST0 : Hid (BtRel WW C w N4 Bb base (.int .i64 0) (.slice none 0 0) (.int .i64 0) w1) := Lib.hid ⟨0, [], noM, 0, rfl, Nat.zero_le _, rfl, hst0, best_none _ _, seen_start _ _ _, by simp, by decide, by decide⟩
  clear hst0 hw1 hBb hbs hN4
  go_loopw [7, 8, 9] (fun s v i wr => BtRel WW C w N4 Bb base s v i wr) (fun _ _ i _ => N - (intOf i).toNat)
  case atStart => exact HST0.out
  case round =>
    clear HST0
    obtain ⟨i, S, b, nb, rfl, hi, rfl, hst, hbi, hse, hsl, hbz⟩ := hrel
    rw [HN.out] at hi
    have HST := Lib.hid hst; have HBI := Lib.hid hbi; have HSE0 := Lib.hid hse; have HSL0 : Hid (S.length ≤ allT (WW.take i)) := Lib.hid hsl; have HBZ := Lib.hid hbz
    clear hst hbi hse hsl hbz
    by_cases hgo : i < N
    · have hgoI : (i : Int) < (N : Int) := by omega
      have hiW : i < WW.length := by rw [HN.out]; exact hgo
      by_cases hgc : i < NC
      · have hgcI : (i : Int) < (NC : Int) := by omega
        have hiC : i < C.length := by rw [HNC.out]; exact hgc
        obtain ⟨ay', rfl⟩ : ∃ ad, ay = some ad := by
          obtain ⟨_, _, e1, hc⟩ := HY.out
          obtain ⟨ad, e2, _⟩ := hc i hiC
          exact ⟨ad, (Value.slice.inj e1).1.trans e2⟩
        obtain ⟨c, hc⟩ : ∃ c, C[i] = c := ⟨_, rfl⟩
        have hCI := hc
        obtain ⟨ad, ai, ci, rfl, hrow⟩ := HX.out.row hiW
        have hlen := HLN.out i hiW
        have hal := all_take hiW
        have hal2 := all_take_le WW (i + 1)
        have hmc := fun m => rcount_nv m (.slice (some ad) N cx) (.slice (some ay') NC cy) WW C
        obtain ⟨W, hW⟩ : ∃ W, WW[i] = W := ⟨_, rfl⟩
        rw [hW] at hrow hlen hal
        obtain ⟨l, hl⟩ : ∃ l, W.length = l := ⟨_, rfl⟩
        rw [hl] at hrow hlen hal
        have HRW : Hid (∀ W', Below w.heap.size w W' → W'.cell? (ad.add i) = some (.slice ai l ci) ∧ W'.cell? (ay'.add i) = some (.int .i64 c)) := Lib.hid fun W' hb' => by
          have h3 := HY.out
          have h4 := ints_cell h3 hb' hiC
          rw [hc] at h4
          exact ⟨(hrow W' hb').1, h4⟩
        have HTX : Hid (∀ k, k < l → ∃ ti, ai = some ti ∧ ∀ W', Below w.heap.size w W' → W'.cell? (ti.add k) = some (.string (W.getD k ⟨#[]⟩))) := Lib.hid fun k hk => by
          have hkW : k < W.length := by rw [hl]; exact hk
          have h5 := (hrow w (Below.refl _ w)).2
          obtain ⟨ti, e1, _⟩ := text_in (by rw [← hl] at h5; exact h5) (Below.refl _ w) hkW
          refine ⟨ti, e1, fun W' hb' => ?_⟩
          obtain ⟨ti2, e2, t1⟩ := text_in (by rw [← hl] at h5; exact h5) hb' hkW
          rw [e1] at e2
          cases e2
          rw [t1]
          simp [List.getD_eq_getElem?_getD, List.getElem?_eq_getElem hkW]
        have HW := Lib.hid hW
        have HL := Lib.hid hl
        have HCC := Lib.hid hc
        have HALI : Hid (allT (WW.take (i + 1)) = allT (WW.take i) + l ∧ allT (WW.take i) + l ≤ 1000000) := Lib.hid ⟨hal, by have := HALL.out; omega⟩
        obtain ⟨z1, z2⟩ := HRW.out wr HST.out.bel
        have HIN : Hid (BtIn WW C w N4 Bb base i l (allT (WW.take i)) W c (.int .i64 nb) u8 (.int .i64 0) wr) := Lib.hid ⟨0, S, b, nb, rfl, Nat.zero_le _, rfl, HST.out, HBI.out, HSE0.out.word W, by simpa using HSL0.out, fun _ => rfl, HBZ.out⟩
        clear hrow hlen hal hal2 hmc hW hl hc hCI z1 z2
        go_wp2
        go_loopw [7, 8, 10] (fun s v x wr => BtIn WW C w N4 Bb base i l (allT (WW.take i)) W c s v x wr) (fun _ _ x _ => l - (intOf x).toNat)
        case atStart => exact HIN.out
        case round =>
          clear HIN
          obtain ⟨k, S, b, nb, rfl, hk, rfl, hst, hbi, hse, hsl, hck, hbz⟩ := hrel
          obtain ⟨sa, sc, ev, _⟩ := hst.row.form
          subst ev
          obtain ⟨bl, br⟩ := b
          have HST := Lib.hid hst
          have HBI := Lib.hid hbi; have HSE0 := Lib.hid hse; have HSL : Hid (S.length ≤ allT (WW.take i) + k) := Lib.hid hsl; have HCK := Lib.hid hck; have HBZ := Lib.hid hbz
          obtain ⟨z1, z2⟩ := HRW.out wr hst.bel
          obtain ⟨j, hj⟩ : ∃ j : Nat, k + 1 = j := ⟨_, rfl⟩
          have HJK := Lib.hid hj
          have hl6 : l ≤ 1000000 := by have := HALI.out; omega
          have hwk : IntKind.i64.wrap ((k : Int) + 1) = (j : Int) := by rw [← hj]; exact IntWalk.i64_in _ (by omega)
          have hwi : IntKind.i64.wrap ((i : Int) + 1) = (i : Int) + 1 := IntWalk.i64_in _ (by omega)
          have hj0 : (0 : Int) ≤ (j : Int) := by omega
          have hk0 : (0 : Int) ≤ (k : Int) := by omega
          clear hst hbi hse hsl hck hbz hj
          by_cases hlast : j < l
          · have hlastI : (j : Int) < (l : Int) := by omega
            by_cases hc1 : c < 1
            · have HEX : Hid (SeenTo WW C S (i + 1) [] 0) := Lib.hid (by
                have h1 := HSE0.out
                rw [HCK.out hc1] at h1
                exact h1.skip hiW hiC (by rw [HCC.out]; exact hc1) [])
              go_wp2
              go_roundw
              case measure => simp [intOf]; omega
              case rel => exact ⟨i + 1, S, (bl, br), nb, by simp, by rw [HN.out]; omega, rfl, HST.out, HBI.out, HEX.out, by rw [HALI.out.1]; have := HSL.out; omega, HBZ.out⟩
            · have HCP : Hid (1 ≤ c) := Lib.hid (by omega)
              have hkl : k < l := by have := HJK.out; omega
              have hkI : (k : Int) < (l : Int) := by omega
              obtain ⟨ti, hti, ht0⟩ := HTX.out k hkl
              subst hti
              obtain ⟨ti2, e2, ht1⟩ := HTX.out j hlast
              cases e2
              obtain ⟨z, hz⟩ : ∃ z, W.getD k ⟨#[]⟩ = z := ⟨_, rfl⟩
              obtain ⟨y, hy⟩ : ∃ y, W.getD j ⟨#[]⟩ = y := ⟨_, rfl⟩
              have HAW : Hid (∀ W', Below w.heap.size w W' → AtW ad ti i k j l ci z y W') := Lib.hid fun W' hb' => ⟨(HRW.out W' hb').1, by rw [ht0 W' hb', hz], by rw [ht1 W' hb', hy]⟩
              have hkW1 : k + 1 < W.length := by rw [HL.out, HJK.out]; exact hlast
              have hzW : W[k]'(by omega) = z := by rw [← hz]; simp [List.getD_eq_getElem?_getD, List.getElem?_eq_getElem (show k < W.length by omega)]
              have hyW : W[k + 1] = y := by rw [← hy, ← HJK.out]; simp [List.getD_eq_getElem?_getD, List.getElem?_eq_getElem hkW1]
              have HCM : Hid (1 ≤ cntW (z, y) WW C) := Lib.hid (by
                have h1 := stands_cnt (WW := WW) (C := C) (k := k) hiW hiC (by rw [HCC.out]; exact HCP.out) (by rw [HW.out]; exact hkW1)
                simp only [HW.out] at h1
                rw [hzW, hyW] at h1
                exact h1)
              have HMORE : Hid (∀ S', (∀ m, m ∈ S' ↔ m ∈ S ∨ m = (z, y)) → SeenTo WW C S' i W (k + 1)) := Lib.hid fun S' hS => HSE0.out.more hkW1 S' (by rw [hzW, hyW]; exact hS)
              have HZS : Hid (z.size ≤ 1000000 ∧ y.size ≤ 1000000) := Lib.hid (by
                have h1 := HSZ.out _ (List.getElem_mem hiW)
                rw [HW.out] at h1
                exact ⟨by rw [← hzW]; exact h1 _ (List.getElem_mem _), by rw [← hyW]; exact h1 _ (List.getElem_mem _)⟩)
              clear ht0 ht1 hz hy hzW hyW hkW1
              go_wp2_with fail
              have hS0 : AtW ad ti i k j l ci z y wr.drew := HAW.out _ HST.out.bel.drew
              refine region_K (S := AtW ad ti i k j l ci z y) [] hmixed ?_
              obtain ⟨W0, hW0⟩ : ∃ W0, wr.drew = W0 := ⟨_, rfl⟩
              have hb0 : BSt w N4 Bb base (.slice sa S.length sc) S (bl, br) W0 := by rw [← hW0]; exact HST.out.drewN 1
              rw [hW0] at hS0 ⊢
              clear hW0
              refine K_at (i := 0) (oi := _) (v := ?_) rfl (by kernel_rfl) (by kernel_rfl) (by kernel_rfl) (by kernel_rfl) (fun _ _ _ h => h) (Or.inl ⟨by rfl, ?_⟩) (by assumption) ?_
              rotate_left
              · (intro w hSw; (try dsimp only at hSw); go_simp; try with_reducible rfl)
              try simp only [Act.put, List.setIfInBounds_toArray, List.set_cons_zero, List.set_cons_succ]
              refine K_at (i := 1) (oi := _) (v := ?_) rfl (by kernel_rfl) (by kernel_rfl) (by kernel_rfl) (by kernel_rfl) (fun _ _ _ h => h) (Or.inl ⟨by rfl, ?_⟩) (by assumption) ?_
              rotate_left
              · (intro w hSw; (try dsimp only at hSw); go_simp; try with_reducible rfl)
              try simp only [Act.put, List.setIfInBounds_toArray, List.set_cons_zero, List.set_cons_succ]
              refine K_at (i := 2) (oi := _) (v := ?_) rfl (by kernel_rfl) (by kernel_rfl) (by kernel_rfl) (by kernel_rfl) (fun _ _ _ h => h) (Or.inl ⟨by rfl, ?_⟩) (by assumption) ?_
              rotate_left
              · (intro w hSw; (try dsimp only at hSw); go_simp; try with_reducible rfl)
              try simp only [Act.put, List.setIfInBounds_toArray, List.set_cons_zero, List.set_cons_succ]
              refine K_at (i := 3) (oi := _) (v := ?_) rfl (by kernel_rfl) (by kernel_rfl) (by kernel_rfl) (by kernel_rfl) (fun _ _ _ h => h) (Or.inl ⟨by rfl, ?_⟩) (by assumption) ?_
              rotate_left
              · (intro w hSw; (try dsimp only at hSw); go_simp; try with_reducible rfl)
              try simp only [Act.put, List.setIfInBounds_toArray, List.set_cons_zero, List.set_cons_succ]
              refine K_at (i := 4) (oi := _) (v := ?_) rfl (by kernel_rfl) (by kernel_rfl) (by kernel_rfl) (by kernel_rfl) (fun _ _ _ h => h) (Or.inl ⟨by rfl, ?_⟩) (by assumption) ?_
              rotate_left
              · (intro w hSw; (try dsimp only at hSw); go_simp; try with_reducible rfl)
              try simp only [Act.put, List.setIfInBounds_toArray, List.set_cons_zero, List.set_cons_succ]
              refine K_at (i := 5) (oi := _) (v := ?_) rfl (by kernel_rfl) (by kernel_rfl) (by kernel_rfl) (by kernel_rfl) (fun _ _ _ h => h) (Or.inl ⟨by rfl, ?_⟩) (by assumption) ?_
              rotate_left
              · (intro w hSw; (try dsimp only at hSw); go_simp; try with_reducible rfl)
              try simp only [Act.put, List.setIfInBounds_toArray, List.set_cons_zero, List.set_cons_succ]
              refine K_at (i := 6) (oi := _) (v := ?_) rfl (by kernel_rfl) (by kernel_rfl) (by kernel_rfl) (by kernel_rfl) (fun _ _ _ h => h) (Or.inl ⟨by rfl, ?_⟩) (by assumption) ?_
              rotate_left
              · (intro w hSw; (try dsimp only at hSw); go_simp; try with_reducible rfl)
              try simp only [Act.put, List.setIfInBounds_toArray, List.set_cons_zero, List.set_cons_succ]
              refine K_at (i := 7) (oi := _) (v := ?_) rfl (by kernel_rfl) (by kernel_rfl) (by kernel_rfl) (by kernel_rfl) (fun _ _ _ h => h) (Or.inl ⟨by rfl, ?_⟩) (by assumption) ?_
              rotate_left
              · (intro w hSw; (try dsimp only at hSw); go_simp; try with_reducible rfl)
              try simp only [Act.put, List.setIfInBounds_toArray, List.set_cons_zero, List.set_cons_succ]
              refine K_at (i := 8) (oi := _) (v := ?_) rfl (by kernel_rfl) (by kernel_rfl) (by kernel_rfl) (by kernel_rfl) (fun _ _ _ h => h) (Or.inl ⟨by rfl, ?_⟩) (by assumption) ?_
              rotate_left
              · (intro w hSw; (try dsimp only at hSw); go_simp; try with_reducible rfl)
              try simp only [Act.put, List.setIfInBounds_toArray, List.set_cons_zero, List.set_cons_succ]
              refine K_at (i := 9) (oi := _) (v := ?_) rfl (by kernel_rfl) (by kernel_rfl) (by kernel_rfl) (by kernel_rfl) (fun _ _ _ h => h) (Or.inl ⟨by rfl, ?_⟩) (by assumption) ?_
              rotate_left
              · (intro w hSw; (try dsimp only at hSw); go_simp; try with_reducible rfl)
              try simp only [Act.put, List.setIfInBounds_toArray, List.set_cons_zero, List.set_cons_succ]
              refine K_at (i := 10) (oi := _) (v := ?_) rfl (by kernel_rfl) (by kernel_rfl) (by kernel_rfl) (by kernel_rfl) (fun _ _ _ h => h) (Or.inl ⟨by rfl, ?_⟩) (by assumption) ?_
              rotate_left
              · (intro w hSw; (try dsimp only at hSw); go_simp; try with_reducible rfl)
              try simp only [Act.put, List.setIfInBounds_toArray, List.set_cons_zero, List.set_cons_succ]
              refine K_at (i := 11) (oi := _) (v := ?_) rfl (by kernel_rfl) (by kernel_rfl) (by kernel_rfl) (by kernel_rfl) (fun _ _ _ h => h) (Or.inl ⟨by rfl, ?_⟩) (by assumption) ?_
              rotate_left
              · (intro w hSw; (try dsimp only at hSw); go_simp; try with_reducible rfl)
              try simp only [Act.put, List.setIfInBounds_toArray, List.set_cons_zero, List.set_cons_succ]
              refine K_at (i := 12) (oi := _) (v := ?_) rfl (by kernel_rfl) (by kernel_rfl) (by kernel_rfl) (by kernel_rfl) (fun _ _ _ h => h) (Or.inl ⟨by rfl, ?_⟩) (by assumption) ?_
              rotate_left
              · (intro w hSw; (try dsimp only at hSw); go_simp; try with_reducible rfl)
              try simp only [Act.put, List.setIfInBounds_toArray, List.set_cons_zero, List.set_cons_succ]
              refine K_at (i := 13) (oi := _) (v := ?_) rfl (by kernel_rfl) (by kernel_rfl) (by kernel_rfl) (by kernel_rfl) (fun _ _ _ h => h) (Or.inl ⟨by rfl, ?_⟩) (by assumption) ?_
              rotate_left
              · (intro w hSw; (try dsimp only at hSw); go_simp; try with_reducible rfl)
              try simp only [Act.put, List.setIfInBounds_toArray, List.set_cons_zero, List.set_cons_succ]
              refine K_at (i := 14) (oi := _) (v := ?_) rfl (by kernel_rfl) (by kernel_rfl) (by kernel_rfl) (by kernel_rfl) (fun _ _ _ h => h) (Or.inl ⟨by rfl, ?_⟩) (by assumption) ?_
              rotate_left
              · (intro w hSw; (try dsimp only at hSw); go_simp; try with_reducible rfl)
              try simp only [Act.put, List.setIfInBounds_toArray, List.set_cons_zero, List.set_cons_succ]
              refine K_at (i := 15) (oi := _) (v := ?_) rfl (by kernel_rfl) (by kernel_rfl) (by kernel_rfl) (by kernel_rfl) (fun _ _ _ h => h) (Or.inl ⟨by rfl, ?_⟩) (by assumption) ?_
              rotate_left
              · (intro w hSw; (try dsimp only at hSw); go_simp; try with_reducible rfl)
              try simp only [Act.put, List.setIfInBounds_toArray, List.set_cons_zero, List.set_cons_succ]
              refine K_only 16 (by kernel_rfl) rfl ?_
              intro K hK
              go_simp
              have hb1 : BSt w N4 Bb base (.slice sa S.length sc) S (bl, br) (W0.alloc (.cells #[.string ⟨#[]⟩, .string ⟨#[]⟩] 42)) := hb0.alloc _
              refine hK.out _ _ (fun _ => HAW.out _ hb1.bel) ?_
              obtain ⟨Mb, hMb⟩ : ∃ Mb, W0.heap.size = Mb := ⟨_, rfl⟩
              have hm1 : (W0.alloc (.cells #[.string ⟨#[]⟩, .string ⟨#[]⟩] 42)).heap[Mb]? = some (.cells #[.string ⟨#[]⟩, .string ⟨#[]⟩] 42 (0, 0)) := by rw [← hMb]; exact heap_alloc_new W0 _
              have hMlo : base ≤ Mb := by rw [← hMb]; exact hb0.lo.2.2.2
              have hMne : (Value.slice sa S.length sc).ownBlock ≠ some Mb := fun e => by have := (hb0.row.lt Mb e).2; omega
              rw [hMb]
              clear hK K hS0
              generalize W0.alloc (.cells #[.string ⟨#[]⟩, .string ⟨#[]⟩] 42) = W1 at *
              try simp only [Act.put, List.setIfInBounds_toArray, List.set_cons_zero, List.set_cons_succ]
              have c0 : W1.cell? ⟨Mb, 0, none⟩ = some (.string ⟨#[]⟩) := by rw [cell_of_row W1 Mb _ _ 42 (0, 0) hm1]; rfl
              have c1 : W1.cell? ⟨Mb, 1, none⟩ = some (.string ⟨#[]⟩) := by rw [cell_of_row W1 Mb _ _ 42 (0, 0) hm1]; rfl
              have n0 : W1.frozen? ⟨Mb, 0, none⟩ = false := Lib.frozen_of_heap hm1 _
              have n1 : W1.frozen? ⟨Mb, 1, none⟩ = false := Lib.frozen_of_heap hm1 _
              refine K_only 17 (by kernel_rfl) rfl ?_
              intro K hK
              go_simp
              have hb2 := hb1.other Mb hMlo hMne (.string z) (.string y)
              have hm2 : ((W1.setCell ⟨Mb, 0, none⟩ (.string z)).setCell ⟨Mb, 1, none⟩ (.string y)).heap[Mb]? = some (.cells #[.string z, .string y] 42 (0, 0)) := heap_setCell_at (heap_setCell_at hm1 (i := 0) (.string z)) (i := 1) (.string y)
              refine hK.out _ _ (fun _ => HAW.out _ hb2.bel) ?_
              clear hK K c0 c1 n0 n1 hb0 hb1 hm1
              generalize (W1.setCell ⟨Mb, 0, none⟩ (.string z)).setCell ⟨Mb, 1, none⟩ (.string y) = W2 at *
              try simp only [Act.put, List.setIfInBounds_toArray, List.set_cons_zero, List.set_cons_succ]
              refine K_done (by kernel_rfl) ?_ _
              have HB2 := Lib.hid hb2
              have HM2 := Lib.hid hm2
              have HMN := Lib.hid (And.intro hMlo hMne)
              have HOLD : Hid (BtOld S (z, y) W2 (.bool false) (.int .i64 0) W2) := Lib.hid ⟨0, 0, false, rfl, Nat.zero_le _, rfl, by simp, rfl⟩
              clear hb2 hm2 hMlo hMne hMb z1 z2
              go_wp2
              go_loopw [12, 13] (fun o x wr => BtOld S (z, y) W2 o x wr) (fun _ x _ => S.length + 1 - (intOf x).toNat)
              case atStart => exact HOLD.out
              case round =>
                clear HOLD
                obtain ⟨q, n3, fl, rfl, hq, rfl, hfl, rfl⟩ := hrel
                have m0 : W2.cell? ⟨Mb, 0, none⟩ = some (.string z) := by rw [cell_of_row W2 Mb _ _ 42 (0, 0) HM2.out]; rfl
                have m1 : W2.cell? ⟨Mb, 1, none⟩ = some (.string y) := by rw [cell_of_row W2 Mb _ _ 42 (0, 0) HM2.out]; rfl
                cases fl with
                | true =>
                  have HSE : Hid (SeenTo WW C S i W (k + 1)) := Lib.hid (HMORE.out S fun m => ⟨.inl, fun h => h.elim id fun e => by rw [e]; exact List.mem_of_mem_take (hfl.1 rfl)⟩)
                  have HB3 : Hid (BSt w N4 Bb base (.slice sa S.length sc) S (bl, br) (W2.drewN n3)) := Lib.hid (HB2.out.drewN n3)
                  clear hfl
                  by_cases hql : q < S.length
                  · have hqI : (q : Int) < (S.length : Int) := by omega
                    go_wp2
                    go_roundw
                    case measure => simp [intOf]; have := HJK.out; omega
                    case rel => exact ⟨k + 1, S, (bl, br), nb, by rw [HJK.out], by omega, rfl, HB3.out, HBI.out, HSE.out, by have := HSL.out; omega, fun h => absurd h (by have := HCP.out; omega), HBZ.out⟩
                  · have hqI : ¬ (q : Int) < (S.length : Int) := by omega
                    go_wp2
                    go_roundw
                    case measure => simp [intOf]; have := HJK.out; omega
                    case rel => exact ⟨k + 1, S, (bl, br), nb, by rw [HJK.out], by omega, rfl, HB3.out, HBI.out, HSE.out, by have := HSL.out; omega, fun h => absurd h (by have := HCP.out; omega), HBZ.out⟩
                | false =>
                  by_cases hql : q < S.length
                  · have hqI : (q : Int) < (S.length : Int) := by omega
                    have hq0 : (0 : Int) ≤ (q : Int) := by omega
                    have hwq : IntKind.i64.wrap ((q : Int) + 1) = (q : Int) + 1 := IntWalk.i64_in _ (by have := HSL.out; have := HALI.out; omega)
                    have hrd := HB2.out.row.reads
                    obtain ⟨sad, rfl⟩ : ∃ ad, sa = some ad := by
                      obtain ⟨_, _, e1, hc⟩ := id hrd
                      obtain ⟨ad, e2, _⟩ := hc q hql
                      exact ⟨ad, (Value.slice.inj e1).1.trans e2⟩
                    obtain ⟨s0, s1⟩ := merges_at hrd (Below.refl _ _) hql
                    obtain ⟨⟨x1, x2⟩, hxx⟩ : ∃ p, S[q] = p := ⟨_, rfl⟩
                    rw [hxx] at s0 s1
                    simp only at s0 s1
                    have hmt : ∀ m, m ∈ S.take (q + 1) ↔ m ∈ S.take q ∨ m = (x1, x2) := fun m => by rw [List.take_succ_eq_append_getElem hql, hxx]; simp
                    have HF := Lib.hid hfl
                    have HMT := Lib.hid hmt
                    clear hrd hxx hfl hmt
                    by_cases heq : (x1, x2) = (z, y)
                    · obtain ⟨rfl, rfl⟩ := Prod.mk.inj heq
                      have hev := merge_eql_yes x1 x2
                      have HFL : Hid ((x1, x2) ∈ S.take (q + 1)) := Lib.hid ((HMT.out _).2 (.inr rfl))
                      clear heq
                      go_wp2_with fail
                      refine wp_region_quiet_lit (by kernel_rfl) (by kernel_rfl) ?_
                      repeat (first | go_big_quiet_skip | quiet_step (fail))
                      refine wpQuiet_nil ?_
                      intro _ hqq
                      obtain ⟨nq, hq2⟩ := hqq
                      subst hq2
                      go_wp2
                      go_roundw
                      case measure => simp [intOf]; omega
                      case rel => exact ⟨q + 1, n3 + nq, true, by simp, by omega, rfl, ⟨fun _ => HFL.out, fun _ => rfl⟩, rfl⟩
                    · have hev := merge_eql_no heq
                      have HFL : Hid (¬ (z, y) ∈ S.take (q + 1)) := Lib.hid fun h => by
                        rcases (HMT.out _).1 h with h | h
                        · exact absurd (HF.out.2 h) (by decide)
                        · exact absurd h.symm heq
                      clear heq
                      go_wp2_with fail
                      refine wp_region_quiet_lit (by kernel_rfl) (by kernel_rfl) ?_
                      repeat (first | go_big_quiet_skip | quiet_step (fail))
                      refine wpQuiet_nil ?_
                      intro _ hqq
                      obtain ⟨nq, hq2⟩ := hqq
                      subst hq2
                      go_wp2
                      go_roundw
                      case measure => simp [intOf]; omega
                      case rel => exact ⟨q + 1, n3 + nq, false, by simp, by omega, rfl, ⟨fun h => (by cases h), fun h => absurd h HFL.out⟩, rfl⟩
                  · have hqI : ¬ (q : Int) < (S.length : Int) := by omega
                    have HSE : Hid (SeenTo WW C (S ++ [(z, y)]) i W (k + 1)) := Lib.hid (HMORE.out _ fun m => by simp)
                    have hbd := HB2.out.drewN n3
                    have hmd : (W2.drewN n3).heap[Mb]? = some (.cells #[.string z, .string y] 42 (0, 0)) := HM2.out
                    clear hfl m0 m1
                    generalize W2.drewN n3 = wd at *
                    have HBD := Lib.hid hbd
                    have HMD := Lib.hid hmd
                    have m0 : wd.cell? ⟨Mb, 0, none⟩ = some (.string z) := by rw [cell_of_row wd Mb _ _ 42 (0, 0) hmd]; rfl
                    have m1 : wd.cell? ⟨Mb, 1, none⟩ = some (.string y) := by rw [cell_of_row wd Mb _ _ 42 (0, 0) hmd]; rfl
                    have HA : Hid (ownE mergeE (wd.alloc (.cells #[.string z, .string y] 42)) base (.slice sa S.length sc) S) := Lib.hid (HBD.out.alloc _).row
                    have HE : Hid (eltsAt mergeE (wd.alloc (.cells #[.string z, .string y] 42)) (.slice (some ⟨wd.heap.size, 0, none⟩) 1 1) [(z, y)]) := Lib.hid (one_elt mergeE wd (z, y))
                    clear hbd hmd
                    go_wp2_with (at_builtin; refine wpList_append_elts mergeE rfl (.tmp 79) (.tmp 81) rfl base (.slice sa S.length sc) _ S [(z, y)] rfl rfl HA.out HE.out (someNone _ _ _) (by have := HSL.out; have := HALI.out; simp only [List.length_singleton]; omega) (by have := HBD.out.lo; rw [World.size_alloc]; omega) ?_; intro r5 w5 ho5 hg5 _; have HB5 := Lib.hid ((HBD.out.alloc (.cells #[.string z, .string y] 42)).app ho5 hg5); have HM5 : Hid (w5.heap[Mb]? = some (.cells #[.string z, .string y] 42 (0, 0))) := Lib.hid ((hg5.block Mb (by rw [World.size_alloc]; have := (Array.getElem?_eq_some_iff.1 HMD.out).1; omega) fun e => HMN.out.2 e.symm).trans ((Below.heap_alloc _ _ _ (Array.getElem?_eq_some_iff.1 HMD.out).1).trans HMD.out)); obtain ⟨ra, rc, e5, _⟩ := ho5.form; rw [List.length_append, List.length_singleton] at e5; subst e5; obtain ⟨p0, p1⟩ := two_cells HM5.out; clear ho5 hg5 m0 m1)
                    have cC := rcount_nv (z, y) (.slice (some ad) N cx) (.slice (some ay') NC cy) WW C w5 (by rw [← HN.out]; exact HX.out.below HB5.out.bel) (by rw [← HNC.out]; exact HY.out.below HB5.out.bel (Nat.le_refl _)) hl hCl (fun V hV => by
                      obtain ⟨p, hp, e⟩ := List.getElem_of_mem hV
                      rw [← e]
                      exact HLN.out p hp) HCAP.out
                    refine cC.mono ?_
                    rintro e w6 ⟨rfl, n6, rfl⟩
                    have hb6 := (HB5.out.alloc (.cells #[.string z, .string y] 42)).drewN n6
                    have hm6 : ((w5.alloc (.cells #[.string z, .string y] 42)).drewN n6).heap[Mb]? = some (.cells #[.string z, .string y] 42 (0, 0)) := (Below.heap_alloc _ _ _ (Array.getElem?_eq_some_iff.1 HM5.out).1).trans HM5.out
                    obtain ⟨cN, hcN⟩ : ∃ cN, cntW (z, y) WW C = cN := ⟨_, rfl⟩
                    rw [hcN]
                    have HCN := Lib.hid hcN
                    clear cC p0 p1 hcN
                    dsimp only at hb6 hm6 ⊢
                    generalize (w5.alloc (.cells #[.string z, .string y] 42)).drewN n6 = wc at *
                    have HB6 := Lib.hid hb6
                    have HM6 := Lib.hid hm6
                    obtain ⟨b0, b1⟩ := hb6.bcells
                    have m0 : wc.cell? ⟨Mb, 0, none⟩ = some (.string z) := by rw [cell_of_row wc Mb _ _ 42 (0, 0) hm6]; rfl
                    have m1 : wc.cell? ⟨Mb, 1, none⟩ = some (.string y) := by rw [cell_of_row wc Mb _ _ 42 (0, 0) hm6]; rfl
                    have cL := less_any z bl wc (by have := HZS.out; omega) (Nat.le_trans HBZ.out.1 (by decide))
                    simp only at b0 b1
                    clear hb6 hm6
                    by_cases hA : ahead z bl = true
                    · have HLS : Hid (aheadM (z, y) (bl, br) = true) := Lib.hid (aheadM_iff.2 (.inl hA))
                      rw [hA] at cL
                      clear hA
                      go_wp2_with fail
                      refine cL.mono ?_
                      rintro e w7 ⟨rfl, n7, rfl⟩
                      have HH := Lib.hid (HB6.out.drewN n7)
                      have m0h : (wc.drewN n7).cell? ⟨Mb, 0, none⟩ = some (.string z) := m0
                      have m1h : (wc.drewN n7).cell? ⟨Mb, 1, none⟩ = some (.string y) := m1
                      have b0h : (wc.drewN n7).cell? ⟨Bb, 0, none⟩ = some (.string bl) := b0
                      have b1h : (wc.drewN n7).cell? ⟨Bb, 1, none⟩ = some (.string br) := b1
                      clear cL m0 m1 b0 b1
                      generalize wc.drewN n7 = wh at *
                      by_cases hgt : nb < cN
                      · have hbet : nb < cntW (z, y) WW C ∨ (cntW (z, y) WW C = nb ∧ aheadM (z, y) (bl, br) = true) := .inl (by rw [HCN.out]; exact hgt)
                        obtain ⟨f0, f1⟩ : wh.frozen? ⟨Bb, 0, none⟩ = false ∧ wh.frozen? ⟨Bb, 1, none⟩ = false := ⟨Lib.frozen_of_heap HH.out.box _, Lib.frozen_of_heap HH.out.box _⟩
                        have HN := Lib.hid (HH.out.set (z, y))
                        have HBN := Lib.hid (HBI.out.turn HCM.out hbet)
                        clear hbet
                        go_wp2
                        go_roundw
                        case measure => simp [intOf]; have := HJK.out; omega
                        case rel => exact ⟨k + 1, S ++ [(z, y)], (z, y), cN, by rw [HJK.out], by omega, by first | rfl | rw [heq], HN.out, by rw [← HCN.out]; exact HBN.out, HSE.out, by simp; have := HSL.out; omega, fun h => absurd h (by have := HCP.out; omega), HZS.out⟩
                      · by_cases heq : cN = nb
                        · have hbet : nb < cntW (z, y) WW C ∨ (cntW (z, y) WW C = nb ∧ aheadM (z, y) (bl, br) = true) := .inr ⟨by rw [HCN.out]; exact heq, HLS.out⟩
                          have hbq : (cN == nb) = true := beq_iff_eq.2 heq
                          obtain ⟨f0, f1⟩ : wh.frozen? ⟨Bb, 0, none⟩ = false ∧ wh.frozen? ⟨Bb, 1, none⟩ = false := ⟨Lib.frozen_of_heap HH.out.box _, Lib.frozen_of_heap HH.out.box _⟩
                          have HN := Lib.hid (HH.out.set (z, y))
                          have HBN := Lib.hid (HBI.out.turn HCM.out hbet)
                          clear hbet
                          go_wp2
                          go_roundw
                          case measure => simp [intOf]; have := HJK.out; omega
                          case rel => exact ⟨k + 1, S ++ [(z, y)], (z, y), cN, by rw [HJK.out], by omega, by first | rfl | rw [heq], HN.out, by rw [← HCN.out]; exact HBN.out, HSE.out, by simp; have := HSL.out; omega, fun h => absurd h (by have := HCP.out; omega), HZS.out⟩
                        · have hbet : ¬ (nb < cntW (z, y) WW C ∨ (cntW (z, y) WW C = nb ∧ aheadM (z, y) (bl, br) = true)) := by rw [HCN.out]; rintro (h | ⟨h, _⟩); exact hgt h; exact heq h
                          have hbq : (cN == nb) = false := beq_eq_false_iff_ne.2 heq
                          have HBN := Lib.hid (HBI.out.keep HCM.out hbet)
                          clear hbet
                          go_wp2
                          go_roundw
                          case measure => simp [intOf]; have := HJK.out; omega
                          case rel => exact ⟨k + 1, S ++ [(z, y)], (bl, br), nb, by rw [HJK.out], by omega, rfl, HH.out, HBN.out, HSE.out, by simp; have := HSL.out; omega, fun h => absurd h (by have := HCP.out; omega), HBZ.out⟩
                    · rw [Bool.eq_false_iff.2 hA] at cL
                      by_cases hzb : z = bl
                      · subst hzb
                        have hLS : aheadM (z, y) (z, br) = ahead y br := by simp [aheadM, ahead_irrefl]
                        obtain ⟨ls, hls⟩ : ∃ ls, ahead y br = ls := ⟨_, rfl⟩
                        have cL2 := fun n => less_any y br (wc.drewN n) (by have := HZS.out; omega) (Nat.le_trans HBZ.out.2 (by decide))
                        rw [hls] at hLS cL2
                        have HLS := Lib.hid hLS
                        clear hA hLS hls
                        go_wp2_with fail
                        refine cL.mono ?_
                        rintro e w7 ⟨rfl, n7, rfl⟩
                        go_wp2_with fail
                        refine (cL2 n7).mono ?_
                        rintro e w8 ⟨rfl, n8, rfl⟩
                        rw [World.drewN_drewN]
                        obtain ⟨n7, hn7⟩ : ∃ n, n7 + n8 = n := ⟨_, rfl⟩
                        rw [hn7]
                        clear cL2 hn7
                        have HH := Lib.hid (HB6.out.drewN n7)
                        have m0h : (wc.drewN n7).cell? ⟨Mb, 0, none⟩ = some (.string z) := m0
                        have m1h : (wc.drewN n7).cell? ⟨Mb, 1, none⟩ = some (.string y) := m1
                        have b0h : (wc.drewN n7).cell? ⟨Bb, 0, none⟩ = some (.string z) := b0
                        have b1h : (wc.drewN n7).cell? ⟨Bb, 1, none⟩ = some (.string br) := b1
                        clear cL m0 m1 b0 b1
                        generalize wc.drewN n7 = wh at *
                        cases ls with
                        | true =>
                          by_cases hgt : nb < cN
                          · have hbet : nb < cntW (z, y) WW C ∨ (cntW (z, y) WW C = nb ∧ aheadM (z, y) (z, br) = true) := .inl (by rw [HCN.out]; exact hgt)
                            obtain ⟨f0, f1⟩ : wh.frozen? ⟨Bb, 0, none⟩ = false ∧ wh.frozen? ⟨Bb, 1, none⟩ = false := ⟨Lib.frozen_of_heap HH.out.box _, Lib.frozen_of_heap HH.out.box _⟩
                            have HN := Lib.hid (HH.out.set (z, y))
                            have HBN := Lib.hid (HBI.out.turn HCM.out hbet)
                            clear hbet
                            go_wp2
                            go_roundw
                            case measure => simp [intOf]; have := HJK.out; omega
                            case rel => exact ⟨k + 1, S ++ [(z, y)], (z, y), cN, by rw [HJK.out], by omega, by first | rfl | rw [heq], HN.out, by rw [← HCN.out]; exact HBN.out, HSE.out, by simp; have := HSL.out; omega, fun h => absurd h (by have := HCP.out; omega), HZS.out⟩
                          · by_cases heq : cN = nb
                            · have hbet : nb < cntW (z, y) WW C ∨ (cntW (z, y) WW C = nb ∧ aheadM (z, y) (z, br) = true) := .inr ⟨by rw [HCN.out]; exact heq, HLS.out⟩
                              have hbq : (cN == nb) = true := beq_iff_eq.2 heq
                              obtain ⟨f0, f1⟩ : wh.frozen? ⟨Bb, 0, none⟩ = false ∧ wh.frozen? ⟨Bb, 1, none⟩ = false := ⟨Lib.frozen_of_heap HH.out.box _, Lib.frozen_of_heap HH.out.box _⟩
                              have HN := Lib.hid (HH.out.set (z, y))
                              have HBN := Lib.hid (HBI.out.turn HCM.out hbet)
                              clear hbet
                              go_wp2
                              go_roundw
                              case measure => simp [intOf]; have := HJK.out; omega
                              case rel => exact ⟨k + 1, S ++ [(z, y)], (z, y), cN, by rw [HJK.out], by omega, by first | rfl | rw [heq], HN.out, by rw [← HCN.out]; exact HBN.out, HSE.out, by simp; have := HSL.out; omega, fun h => absurd h (by have := HCP.out; omega), HZS.out⟩
                            · have hbet : ¬ (nb < cntW (z, y) WW C ∨ (cntW (z, y) WW C = nb ∧ aheadM (z, y) (z, br) = true)) := by rw [HCN.out]; rintro (h | ⟨h, _⟩); exact hgt h; exact heq h
                              have hbq : (cN == nb) = false := beq_eq_false_iff_ne.2 heq
                              have HBN := Lib.hid (HBI.out.keep HCM.out hbet)
                              clear hbet
                              go_wp2
                              go_roundw
                              case measure => simp [intOf]; have := HJK.out; omega
                              case rel => exact ⟨k + 1, S ++ [(z, y)], (z, br), nb, by rw [HJK.out], by omega, rfl, HH.out, HBN.out, HSE.out, by simp; have := HSL.out; omega, fun h => absurd h (by have := HCP.out; omega), HBZ.out⟩
                        | false =>
                          by_cases hgt : nb < cN
                          · have hbet : nb < cntW (z, y) WW C ∨ (cntW (z, y) WW C = nb ∧ aheadM (z, y) (z, br) = true) := .inl (by rw [HCN.out]; exact hgt)
                            obtain ⟨f0, f1⟩ : wh.frozen? ⟨Bb, 0, none⟩ = false ∧ wh.frozen? ⟨Bb, 1, none⟩ = false := ⟨Lib.frozen_of_heap HH.out.box _, Lib.frozen_of_heap HH.out.box _⟩
                            have HN := Lib.hid (HH.out.set (z, y))
                            have HBN := Lib.hid (HBI.out.turn HCM.out hbet)
                            clear hbet
                            go_wp2
                            go_roundw
                            case measure => simp [intOf]; have := HJK.out; omega
                            case rel => exact ⟨k + 1, S ++ [(z, y)], (z, y), cN, by rw [HJK.out], by omega, by first | rfl | rw [heq], HN.out, by rw [← HCN.out]; exact HBN.out, HSE.out, by simp; have := HSL.out; omega, fun h => absurd h (by have := HCP.out; omega), HZS.out⟩
                          · have hbet : ¬ (nb < cntW (z, y) WW C ∨ (cntW (z, y) WW C = nb ∧ aheadM (z, y) (z, br) = true)) := by rw [HCN.out, HLS.out]; rintro (h | ⟨_, h⟩); exact hgt h; cases h
                            by_cases heq : cN = nb
                            · have hbq : (cN == nb) = true := beq_iff_eq.2 heq
                              have HBN := Lib.hid (HBI.out.keep HCM.out hbet)
                              clear hbet
                              go_wp2
                              go_roundw
                              case measure => simp [intOf]; have := HJK.out; omega
                              case rel => exact ⟨k + 1, S ++ [(z, y)], (z, br), nb, by rw [HJK.out], by omega, rfl, HH.out, HBN.out, HSE.out, by simp; have := HSL.out; omega, fun h => absurd h (by have := HCP.out; omega), HBZ.out⟩
                            · have hbq : (cN == nb) = false := beq_eq_false_iff_ne.2 heq
                              have HBN := Lib.hid (HBI.out.keep HCM.out hbet)
                              clear hbet
                              go_wp2
                              go_roundw
                              case measure => simp [intOf]; have := HJK.out; omega
                              case rel => exact ⟨k + 1, S ++ [(z, y)], (z, br), nb, by rw [HJK.out], by omega, rfl, HH.out, HBN.out, HSE.out, by simp; have := HSL.out; omega, fun h => absurd h (by have := HCP.out; omega), HBZ.out⟩
                      · have hne := text_ne hzb
                        have HLS : Hid (aheadM (z, y) (bl, br) = false) := Lib.hid (by
                          rw [Bool.eq_false_iff, ne_eq, aheadM_iff]
                          rintro (h | ⟨h, _⟩)
                          · exact hA h
                          · exact hzb h)
                        clear hA hzb
                        go_wp2_with fail
                        refine cL.mono ?_
                        rintro e w7 ⟨rfl, n7, rfl⟩
                        have HH := Lib.hid (HB6.out.drewN n7)
                        have m0h : (wc.drewN n7).cell? ⟨Mb, 0, none⟩ = some (.string z) := m0
                        have m1h : (wc.drewN n7).cell? ⟨Mb, 1, none⟩ = some (.string y) := m1
                        have b0h : (wc.drewN n7).cell? ⟨Bb, 0, none⟩ = some (.string bl) := b0
                        have b1h : (wc.drewN n7).cell? ⟨Bb, 1, none⟩ = some (.string br) := b1
                        clear cL m0 m1 b0 b1
                        generalize wc.drewN n7 = wh at *
                        by_cases hgt : nb < cN
                        · have hbet : nb < cntW (z, y) WW C ∨ (cntW (z, y) WW C = nb ∧ aheadM (z, y) (bl, br) = true) := .inl (by rw [HCN.out]; exact hgt)
                          obtain ⟨f0, f1⟩ : wh.frozen? ⟨Bb, 0, none⟩ = false ∧ wh.frozen? ⟨Bb, 1, none⟩ = false := ⟨Lib.frozen_of_heap HH.out.box _, Lib.frozen_of_heap HH.out.box _⟩
                          have HN := Lib.hid (HH.out.set (z, y))
                          have HBN := Lib.hid (HBI.out.turn HCM.out hbet)
                          clear hbet
                          go_wp2
                          go_roundw
                          case measure => simp [intOf]; have := HJK.out; omega
                          case rel => exact ⟨k + 1, S ++ [(z, y)], (z, y), cN, by rw [HJK.out], by omega, by first | rfl | rw [heq], HN.out, by rw [← HCN.out]; exact HBN.out, HSE.out, by simp; have := HSL.out; omega, fun h => absurd h (by have := HCP.out; omega), HZS.out⟩
                        · have hbet : ¬ (nb < cntW (z, y) WW C ∨ (cntW (z, y) WW C = nb ∧ aheadM (z, y) (bl, br) = true)) := by rw [HCN.out, HLS.out]; rintro (h | ⟨_, h⟩); exact hgt h; cases h
                          by_cases heq : cN = nb
                          · have hbq : (cN == nb) = true := beq_iff_eq.2 heq
                            have HBN := Lib.hid (HBI.out.keep HCM.out hbet)
                            clear hbet
                            go_wp2
                            go_roundw
                            case measure => simp [intOf]; have := HJK.out; omega
                            case rel => exact ⟨k + 1, S ++ [(z, y)], (bl, br), nb, by rw [HJK.out], by omega, rfl, HH.out, HBN.out, HSE.out, by simp; have := HSL.out; omega, fun h => absurd h (by have := HCP.out; omega), HBZ.out⟩
                          · have hbq : (cN == nb) = false := beq_eq_false_iff_ne.2 heq
                            have HBN := Lib.hid (HBI.out.keep HCM.out hbet)
                            clear hbet
                            go_wp2
                            go_roundw
                            case measure => simp [intOf]; have := HJK.out; omega
                            case rel => exact ⟨k + 1, S ++ [(z, y)], (bl, br), nb, by rw [HJK.out], by omega, rfl, HH.out, HBN.out, HSE.out, by simp; have := HSL.out; omega, fun h => absurd h (by have := HCP.out; omega), HBZ.out⟩
          · have hlastI : ¬ (j : Int) < (l : Int) := by omega
            have HEX : Hid (SeenTo WW C S (i + 1) [] 0) := Lib.hid (by
              have h1 := HSE0.out
              by_cases hc1 : c < 1
              · rw [HCK.out hc1] at h1
                exact h1.skip hiW hiC (by rw [HCC.out]; exact hc1) []
              · rw [← HW.out] at h1
                exact h1.next hiW hiC (by rw [HCC.out]; omega) (by rw [HW.out, HL.out]; have := HJK.out; omega) [])
            go_wp2
            go_roundw
            case measure => simp [intOf]; omega
            case rel => exact ⟨i + 1, S, (bl, br), nb, by simp, by rw [HN.out]; omega, rfl, HST.out, HBI.out, HEX.out, by rw [HALI.out.1]; have := HSL.out; omega, HBZ.out⟩
      · have hgcI : ¬ (i : Int) < (NC : Int) := by omega
        have HBR : Hid (BestRel WW C b nb) := Lib.hid (HBI.out.best (HSE0.out.end (.inr (by rw [HNC.out]; omega))))
        obtain ⟨b0, b1⟩ := HST.out.bcells
        have e0 : wr.cell? ⟨N4, 0, none⟩ = some (.string ⟨#[]⟩) := by rw [cell_of_row wr N4 _ _ 42 (0, 0) HST.out.res]; rfl
        have e1 : wr.cell? ⟨N4, 1, none⟩ = some (.string ⟨#[]⟩) := by rw [cell_of_row wr N4 _ _ 42 (0, 0) HST.out.res]; rfl
        have f0 : wr.frozen? ⟨N4, 0, none⟩ = false := Lib.frozen_of_heap HST.out.res _
        have f1 : wr.frozen? ⟨N4, 1, none⟩ = false := Lib.frozen_of_heap HST.out.res _
        go_wp2
        have h0 := heap_setCell_at (heap_setCell_at HST.out.res (i := 0) (.string b.1)) (i := 1) (.string b.2)
        have z0 := cell_of_row _ N4 0 _ 42 (0, 0) h0
        have z1 := cell_of_row _ N4 1 _ 42 (0, 0) h0
        refine bodyPost_ret (v := .tuple #[.agg #[.string b.1, .string b.2], .int .i64 nb]) (by rw [results_cell_tmp rfl]; simp [go_sem, z0, z1]) rfl ?_
        exact ⟨b, nb, HBR.out, rfl, (HST.out.bel.setCell (p := ⟨N4, 0, none⟩) HST.out.lo.1 _).setCell (p := ⟨N4, 1, none⟩) HST.out.lo.1 _⟩
    · have hgoI : ¬ (i : Int) < (N : Int) := by omega
      have HBR : Hid (BestRel WW C b nb) := Lib.hid (HBI.out.best (HSE0.out.end (.inl (by rw [HN.out]; omega))))
      obtain ⟨b0, b1⟩ := HST.out.bcells
      have e0 : wr.cell? ⟨N4, 0, none⟩ = some (.string ⟨#[]⟩) := by rw [cell_of_row wr N4 _ _ 42 (0, 0) HST.out.res]; rfl
      have e1 : wr.cell? ⟨N4, 1, none⟩ = some (.string ⟨#[]⟩) := by rw [cell_of_row wr N4 _ _ 42 (0, 0) HST.out.res]; rfl
      have f0 : wr.frozen? ⟨N4, 0, none⟩ = false := Lib.frozen_of_heap HST.out.res _
      have f1 : wr.frozen? ⟨N4, 1, none⟩ = false := Lib.frozen_of_heap HST.out.res _
      go_wp2
      have h0 := heap_setCell_at (heap_setCell_at HST.out.res (i := 0) (.string b.1)) (i := 1) (.string b.2)
      have z0 := cell_of_row _ N4 0 _ 42 (0, 0) h0
      have z1 := cell_of_row _ N4 1 _ 42 (0, 0) h0
      refine bodyPost_ret (v := .tuple #[.agg #[.string b.1, .string b.2], .int .i64 nb]) (by rw [results_cell_tmp rfl]; simp [go_sem, z0, z1]) rfl ?_
      exact ⟨b, nb, HBR.out, rfl, (HST.out.bel.setCell (p := ⟨N4, 0, none⟩) HST.out.lo.1 _).setCell (p := ⟨N4, 1, none⟩) HST.out.lo.1 _⟩
end Go.Proofs.YtnmacalbbmeedaaGreat
