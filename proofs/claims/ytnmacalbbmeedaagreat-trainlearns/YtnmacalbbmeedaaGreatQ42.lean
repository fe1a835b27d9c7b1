/- Texts in one: Params, TrA, TrR. -/
import Derived.Test.YtnmacalbbmeedaaGreatQ01
import Derived.Lib.SmallJoins
import Derived.Test.YtnmacalbbmeedaaGreatQ41
import Derived.Test.YtnmacalbbmeedaaGreatQ40
/- Params of layer 8, and the document's; a struct of three numbers as an argument. -/
namespace Go.Proofs.YtnmacalbbmeedaaGreat
open Go.ChangeShapes Go.WideShapes Go.RowKit

/-- Are these parameters? An error's number. -/
def paramsOf (b m l : Int) : Int := if b < 0 ∨ 1048576 < b ∨ m < 1 ∨ l < 1 ∨ 65536 < l then 2 else 0
set_option maxRecDepth 100000 in
theorem params_no {b m l : Int} (h : b < 0 ∨ 1048576 < b ∨ m < 1 ∨ l < 1 ∨ 65536 < l) : paramsOf b m l = 2 := if_pos h
set_option maxRecDepth 100000 in
theorem params_yes {b m l : Int} (h : ¬ (b < 0 ∨ 1048576 < b ∨ m < 1 ∨ l < 1 ∨ 65536 < l)) : paramsOf b m l = 0 := if_neg h
set_option maxRecDepth 100000 in
theorem Tryz.cells24 : Tryz.prog.cellsOf 24 = 3 := by kernel_rfl
set_option maxRecDepth 100000 in
set_option maxHeartbeats 1000000 in
theorem params_any (b m l : Int) (w : World) : Calls Tryz.prog 25 #[.agg #[.int .i64 b, .int .i64 m, .int .i64 l]] w fun e w' => e = .returned (.int .i64 (paramsOf b m l)) ∧ Below w.heap.size w w' := by
  by_cases h1 : b < 0
  · rw [params_no (by omega)]
    go_enter Tryz.func25, Tryz.ntmps25
    go_wp2
    go_ret
    exact ⟨rfl, (Below.refl _ w).alloc (Nat.le_refl _) _⟩
  by_cases h2 : 1048576 < b
  · rw [params_no (by omega)]
    go_enter Tryz.func25, Tryz.ntmps25
    go_wp2
    go_ret
    exact ⟨rfl, (Below.refl _ w).alloc (Nat.le_refl _) _⟩
  by_cases h3 : m < 1
  · rw [params_no (by omega)]
    go_enter Tryz.func25, Tryz.ntmps25
    go_wp2
    go_ret
    exact ⟨rfl, (Below.refl _ w).alloc (Nat.le_refl _) _⟩
  by_cases h4 : l < 1
  · rw [params_no (by omega)]
    go_enter Tryz.func25, Tryz.ntmps25
    go_wp2
    go_ret
    exact ⟨rfl, (Below.refl _ w).alloc (Nat.le_refl _) _⟩
  by_cases h5 : 65536 < l
  · rw [params_no (by omega)]
    go_enter Tryz.func25, Tryz.ntmps25
    go_wp2
    go_ret
    exact ⟨rfl, (Below.refl _ w).alloc (Nat.le_refl _) _⟩
  · rw [params_yes (by omega)]
    go_enter Tryz.func25, Tryz.ntmps25
    go_wp2
    go_ret
    exact ⟨rfl, (Below.refl _ w).alloc (Nat.le_refl _) _⟩
set_option maxRecDepth 100000 in
set_option maxHeartbeats 1000000 in
theorem refParams_any (b m l : Int) (w : World) : Calls Tryz.prog 22 #[.agg #[.int .i64 b, .int .i64 m, .int .i64 l]] w fun e w' => e = .returned (.int .i64 (paramsOf b m l)) ∧ Below w.heap.size w w' := by
  by_cases h1 : b < 0
  · rw [params_no (by omega)]
    go_enter Tryz.func22, Tryz.ntmps22
    go_wp2
    go_ret
    exact ⟨rfl, (Below.refl _ w).alloc (Nat.le_refl _) _⟩
  by_cases h2 : 1048576 < b
  · rw [params_no (by omega)]
    go_enter Tryz.func22, Tryz.ntmps22
    go_wp2
    go_ret
    exact ⟨rfl, (Below.refl _ w).alloc (Nat.le_refl _) _⟩
  by_cases h3 : m < 1
  · rw [params_no (by omega)]
    go_enter Tryz.func22, Tryz.ntmps22
    go_wp2
    go_ret
    exact ⟨rfl, (Below.refl _ w).alloc (Nat.le_refl _) _⟩
  by_cases h4 : l < 1
  · rw [params_no (by omega)]
    go_enter Tryz.func22, Tryz.ntmps22
    go_wp2
    go_ret
    exact ⟨rfl, (Below.refl _ w).alloc (Nat.le_refl _) _⟩
  by_cases h5 : 65536 < l
  · rw [params_no (by omega)]
    go_enter Tryz.func22, Tryz.ntmps22
    go_wp2
    go_ret
    exact ⟨rfl, (Below.refl _ w).alloc (Nat.le_refl _) _⟩
  · rw [params_yes (by omega)]
    go_enter Tryz.func22, Tryz.ntmps22
    go_wp2
    go_ret
    exact ⟨rfl, (Below.refl _ w).alloc (Nat.le_refl _) _⟩
end Go.Proofs.YtnmacalbbmeedaaGreat
/- What the laws of train ask of the program's Learn; the document's Learn; the document's example; what is looked at. -/
namespace Go.Proofs.YtnmacalbbmeedaaGreat
open Go.RowKit

/-- Has a word more bytes than the limit? -/
def longW (L : Bag) (lim : Int) : Bool := L.any fun p => decide (lim < (p.1.size : Int))
/-- The error's number. -/
def errT (L : Bag) (b d lim : Int) : Int := if paramsOf b d lim = 0 then (if longW L lim = true then 4 else (checkOf L).2) else paramsOf b d lim
set_option maxRecDepth 100000 in
theorem err_params {L : Bag} {b d lim : Int} (h : paramsOf b d lim ≠ 0) : errT L b d lim = paramsOf b d lim := if_neg h
set_option maxRecDepth 100000 in
theorem err_long {L : Bag} {b d lim : Int} (h : paramsOf b d lim = 0) (hl : longW L lim = true) : errT L b d lim = 4 := by unfold errT; rw [if_pos h, if_pos hl]
set_option maxRecDepth 100000 in
theorem err_check {L : Bag} {b d lim : Int} (h : paramsOf b d lim = 0) (hl : longW L lim = false) : errT L b d lim = (checkOf L).2 := by unfold errT; rw [if_pos h, if_neg (by rw [hl]; simp)]
set_option maxRecDepth 100000 in
theorem err_none {L : Bag} {b d lim : Int} (h : errT L b d lim = 0) : (paramsOf b d lim = 0 ∧ longW L lim = false ∧ (checkOf L).2 = 0) ∧ (0 ≤ b ∧ b ≤ 1048576) ∧ 1 ≤ d := by
  have h1 : paramsOf b d lim = 0 := Classical.byContradiction fun k => k (by rw [← err_params (L := L) k]; exact h)
  have h3 : ¬ (b < 0 ∨ 1048576 < b ∨ d < 1 ∨ lim < 1 ∨ 65536 < lim) := fun k => by rw [params_no k] at h1; cases h1
  refine ⟨⟨h1, ?_⟩, by omega, by omega⟩
  cases h2 : longW L lim with
  | true => rw [err_long h1 h2] at h; cases h
  | false => rw [err_check h1 h2] at h; exact ⟨rfl, h⟩
/-- What is counted. -/
structure StN where
  pos : Int
  rnd : Int
  pu : Int
  po : Int
  pk : Int
  re : Int
def stV (s : StN) : Value := .agg #[.int .i64 s.pos, .int .i64 s.rnd, .int .i64 s.pu, .int .i64 s.po, .int .i64 s.pk, .int .i64 s.re]
def noS : StN := ⟨0, 0, 0, 0, 0, 0⟩
structure BoundS (s : StN) (N R : Nat) : Prop where
  pos : s.pos = (N : Int)
  rnd : s.rnd = (R : Int)
  pu : 0 ≤ s.pu ∧ s.pu ≤ 5 * (N : Int)
  pk : 0 ≤ s.pk ∧ s.pk ≤ 5 * (N : Int) + 1
  po : 0 ≤ s.po ∧ s.po ≤ s.pu
  re : 0 ≤ s.re
  le : R ≤ N
def TlRet (L : Bag) (b d lim : Int) (w : World) (e : Ending) (w' : World) : Prop :=
  ∃ v ms s, e = .returned (.tuple #[v, stV s, .int .i64 (errT L b d lim)]) ∧ eltsAt mergeE w' v ms ∧ Below w.heap.size w w' ∧ (errT L b d lim ≠ 0 → ms = [] ∧ s = noS) ∧ (errT L b d lim = 0 → Learned (startW L) (countsOf L) b d ms ∧ BoundS s (bytesOf L) ms.length) ∧ (nilNone v ∧ ∀ a n c, v = .slice a n c → n ≤ c)
/-- What is asked of the program. -/
def TLearns : Prop := ∀ (x : Value) (L : Bag) (b d lim : Int) (w : World), wordsAt w x L → L.length ≤ 60 → Fits L → bytesOf L ≤ 300 → FitsB b → FitsB d → FitsB lim →
  Calls Tryz.prog 9 #[x, .agg #[.int .i64 b, .int .i64 d, .int .i64 lim]] w fun e w' => TlRet L b d lim w e w'
def TrGreat (L : Bag) (w : World) (e : Ending) (w' : World) : Prop := ∃ g, e = .returned (.bool g) ∧ w' = w ∧ (g = false → (L.length ≤ 60 ∧ bytesOf L ≤ 300) ∧ ∀ p ∈ L, p.1.size ≤ 100)
set_option maxRecDepth 100000 in
set_option maxHeartbeats 2000000 in
theorem tgreat_any (v : Value) (L : Bag) (w : World) (hv : wordsAt w v L) (hL : L.length ≤ 9223372036854775807) :
    Calls Tryz.prog 8 #[v] w fun e w' => TrGreat L w e w' := by
  have HV := Lib.hid hv
  have cG := great_any v L 60 w hv hL
  rw [show ((60 : Nat) : Int) = 60 from rfl] at cG
  obtain ⟨a, cap, rfl, _⟩ := hv
  go_enter Tryz.func8, Tryz.ntmps8
  go_wp2_with fail
  refine cG.mono ?_
  rintro e w1 ⟨g, rfl, rfl, hg⟩
  cases g with
  | true =>
    go_wp2
    go_ret
    exact ⟨true, rfl, rfl, fun h => by cases h⟩
  | false =>
    obtain ⟨h1, h2⟩ := hg rfl
    have hb := nv_bytes_few h2
    have HLL := Lib.hid h1
    have HSZ := Lib.hid h2
    have cP := refPositions_any _ L w1 HV.out hL (by omega)
    obtain ⟨n, hn⟩ : ∃ n, bytesOf L = n := ⟨_, rfl⟩
    have HN := Lib.hid hn
    rw [hn] at cP
    clear hg h1 h2 hb cG hn
    go_wp2_with fail
    refine cP.mono ?_
    rintro e w2 ⟨rfl, rfl⟩
    clear cP
    by_cases hb : n ≤ 300
    · have hd : decide ((300 : Int) < (n : Int)) = false := decide_eq_false (by omega)
      go_wp2
      go_ret
      exact ⟨false, by simp, rfl, fun _ => ⟨⟨HLL.out, by rw [HN.out]; exact hb⟩, HSZ.out⟩⟩
    · have hd : decide ((300 : Int) < (n : Int)) = true := decide_eq_true (by omega)
      go_wp2
      go_ret
      exact ⟨true, by simp, rfl, fun h => by cases h⟩
/-! The document's Learn. -/
def RtRet (L : Bag) (b d lim : Int) (w : World) (e : Ending) (w' : World) : Prop :=
  ∃ v ms, e = .returned (.tuple #[v, .int .i64 (errT L b d lim)]) ∧ ownE mergeE w' w.heap.size v ms ∧ Below w.heap.size w w' ∧ (errT L b d lim ≠ 0 → ms = []) ∧ (errT L b d lim = 0 → Learned (startW L) (countsOf L) b d ms)
def RtRel (L : Bag) (lim : Int) (w : World) (x : Value) (wr : World) : Prop := ∃ k : Nat, x = .int .i64 (k : Int) ∧ k ≤ L.length ∧ (∀ j (h : j < L.length), j < k → (L[j].1.size : Int) ≤ lim) ∧ Below w.heap.size w wr
set_option maxRecDepth 100000 in
theorem long_no {L : Bag} {lim : Int} (h : ∀ j (h : j < L.length), (L[j].1.size : Int) ≤ lim) : longW L lim = false := List.any_eq_false.2 fun p hp => by
  obtain ⟨j, hj, rfl⟩ := List.mem_iff_getElem.1 hp
  have := h j hj
  simp only [decide_eq_true_eq]
  omega
set_option maxRecDepth 100000 in
theorem long_yes {L : Bag} {lim : Int} {j : Nat} (hj : j < L.length) (h : lim < (L[j].1.size : Int)) : longW L lim = true := List.any_eq_true.2 ⟨L[j], List.getElem_mem _, decide_eq_true h⟩
set_option maxRecDepth 100000 in
set_option maxHeartbeats 4000000 in
theorem rtrain_any (x : Value) (L : Bag) (b d lim : Int) (w : World) (hx : wordsAt w x L) (hL : L.length ≤ 1000000) (hf : Fits L) (hby : bytesOf L ≤ 500000) :
    Calls Tryz.prog 10 #[x, .agg #[.int .i64 b, .int .i64 d, .int .i64 lim]] w fun e w' => RtRet L b d lim w e w' := by
  obtain ⟨a, cap, rfl, _⟩ := id hx
  obtain ⟨N, hN⟩ : ∃ N, L.length = N := ⟨_, rfl⟩
  obtain ⟨M, hM⟩ : ∃ M, w.heap.size = M := ⟨_, rfl⟩
  obtain ⟨wa, hwa⟩ : ∃ wa, w.alloc (.cells #[.int .i64 b, .int .i64 d, .int .i64 lim] 24) = wa := ⟨_, rfl⟩
  have hba : wa.heap[M]? = some (.cells #[.int .i64 b, .int .i64 d, .int .i64 lim] 24 (0, 0)) := by rw [← hwa, ← hM]; exact heap_alloc_new w _
  have hbe : Below w.heap.size w wa := by rw [← hwa]; exact (Below.refl _ w).alloc (Nat.le_refl _) _
  have hlt : M < wa.heap.size := (Array.getElem?_eq_some_iff.1 hba).1
  rw [hN] at hx ⊢
  obtain ⟨z, hz⟩ : ∃ z, paramsOf b d lim = z := ⟨_, rfl⟩
  have cP := refParams_any b d lim wa
  rw [hz] at cP
  have HX := Lib.hid hx
  have HN := Lib.hid hN
  have HF := Lib.hid hf
  have HBY := Lib.hid hby
  have HZ := Lib.hid hz
  have HBE := Lib.hid hbe
  have HM := Lib.hid hM
  have HCB : Hid (∀ W, Below wa.heap.size wa W → W.cell? ⟨M, 0, none⟩ = some (.int .i64 b) ∧ W.cell? ⟨M, 1, none⟩ = some (.int .i64 d) ∧ W.cell? ⟨M, 2, none⟩ = some (.int .i64 lim)) := Lib.hid fun W hb => by
    have h := (hb.block M hlt).trans hba
    exact ⟨by rw [cell_of_row W M _ _ _ (0, 0) h]; rfl, by rw [cell_of_row W M _ _ _ (0, 0) h]; rfl, by rw [cell_of_row W M _ _ _ (0, 0) h]; rfl⟩
  have hNl : N ≤ 1000000 := by omega
  obtain ⟨b0, b1, b2⟩ := HCB.out wa (Below.refl _ _)
  clear hx hN hf hby hz hba hbe hlt hL
  go_enter Tryz.func10, Tryz.ntmps10
  go_wp2_with fail
  refine cP.mono ?_
  rintro e w1 ⟨rfl, hb1⟩
  clear cP b0 b1 b2 hwa hM
  have HB1 := Lib.hid hb1
  clear hb1
  by_cases h0 : z = 0
  · subst h0
    have HST : Hid (RtRel L lim wa (.int .i64 ((0 : Nat) : Int)) w1) := Lib.hid ⟨0, rfl, Nat.zero_le _, fun j _ h => by omega, HB1.out⟩
    go_wp2
    go_loopw [7] (fun x wr => RtRel L lim wa x wr) (fun x _ => N - (intOf x).toNat)
    case atStart => exact HST.out
    case round =>
      clear HST
      obtain ⟨k, rfl, hk, hs, hbel⟩ := hrel
      rw [HN.out] at hk
      have HS := Lib.hid hs; have HB := Lib.hid hbel
      clear hs hbel
      by_cases hgo : k < N
      · have hgoI : (k : Int) < (N : Int) := by omega
        have hkL : k < L.length := by rw [HN.out]; exact hgo
        have hwk : IntKind.i64.wrap ((k : Int) + 1) = (k : Int) + 1 := IntWalk.i64_in _ (by omega)
        obtain ⟨ad, rfl⟩ : ∃ ad, a = some ad := by
          obtain ⟨_, _, e1, hc⟩ := HX.out
          obtain ⟨ad, e2, _⟩ := hc k hkL
          exact ⟨ad, (Value.slice.inj e1).1.trans e2⟩
        have hX := HX.out
        rw [← HN.out] at hX
        obtain ⟨t0, _⟩ := words_at hX (HBE.out.trans (HB.out.mono HBE.out.size)) hkL
        obtain ⟨s, hsz⟩ : ∃ s, L[k].1 = s := ⟨_, rfl⟩
        rw [hsz] at t0
        obtain ⟨b0, b1, b2⟩ := HCB.out wr HB.out
        by_cases hl : lim < (s.size : Int)
        · have hd1 : decide (lim < (s.size : Int)) = true := decide_eq_true hl
          have HE : Hid (errT L b d lim = 4) := Lib.hid (err_long HZ.out (long_yes hkL (by rw [hsz]; exact hl)))
          clear hX hsz
          go_wp2
          go_quiet (fail)
          go_wp2
          go_ret2
          exact ⟨_, [], by rw [HE.out]; rfl, ownE.nil _ _, HBE.out.trans (below_drewN' (HB.out.mono HBE.out.size) _), fun _ => rfl, fun h => absurd (HE.out.symm.trans h) (by decide)⟩
        · have hd1 : decide (lim < (s.size : Int)) = false := decide_eq_false hl
          have HNX : Hid (∀ q, RtRel L lim wa (.int .i64 ((k : Int) + 1)) (wr.drewN q)) := Lib.hid fun q => ⟨k + 1, by simp, by rw [HN.out]; omega, fun j hj hjk => by
            by_cases e : j < k
            · exact HS.out j hj e
            · obtain rfl : j = k := by omega
              rw [hsz]; omega, below_drewN' HB.out q⟩
          clear hX hsz
          go_wp2
          go_quiet (fail)
          go_wp2
          go_roundw
          case rel => exact HNX.out _
          case measure => simp [intOf]; omega
      · have hgoI : ¬ (k : Int) < (N : Int) := by omega
        have HLO : Hid (longW L lim = false) := Lib.hid (long_no fun j hj => HS.out j hj (by rw [HN.out] at hj; omega))
        have hX := HX.out
        have hbw := HBE.out.trans (HB.out.mono HBE.out.size)
        have cK := refCheck_any (.slice a N cap) L wr (hX.below hbw (Nat.le_refl _)) (by rw [HN.out]; exact hNl) HF.out
        obtain ⟨er, her⟩ : ∃ er, (checkOf L).2 = er := ⟨_, rfl⟩
        obtain ⟨ep, hep⟩ : ∃ er, (checkOf L).1 = er := ⟨_, rfl⟩
        rw [her, hep] at cK
        have HER : Hid (errT L b d lim = er) := Lib.hid ((err_check HZ.out HLO.out).trans her)
        have HEC := Lib.hid her
        have HBW := Lib.hid hbw
        clear hX hbw her hep
        go_wp2_with fail
        refine cK.mono ?_
        rintro e w5 ⟨rfl, n5, rfl⟩
        have HB5 : Hid (Below w.heap.size w (wr.drewN n5)) := Lib.hid (below_drewN' HBW.out n5)
        have hb5 : Below wa.heap.size wa (wr.drewN n5) := below_drewN' HB.out n5
        obtain ⟨b0, b1, b2⟩ := HCB.out _ hb5
        generalize wr.drewN n5 = w5 at *
        clear cK hb5
        by_cases he0 : er = 0
        · subst he0
          have cL := rlearn_any (.slice a N cap) L b d w5 (HX.out.below HB5.out (Nat.le_refl _)) (by rw [HN.out]; exact hNl) HF.out HBY.out
          go_wp2_with fail
          refine cL.mono ?_
          rintro e w6 ⟨v, ms, rfl, ho, hb6, h1, h2⟩
          have HO := Lib.hid (ho.mono (b' := w.heap.size) HB5.out.size)
          have HB6 := Lib.hid (HB5.out.trans (hb6.mono HB5.out.size))
          have H2 := Lib.hid h2
          clear cL ho hb6 h1 h2
          go_wp2
          go_ret2
          exact ⟨v, ms, by rw [HER.out]; rfl, HO.out, HB6.out, fun h => absurd HER.out h, fun h => H2.out HEC.out (err_none HER.out).2.2⟩
        · go_wp2
          go_ret2
          exact ⟨_, [], by rw [HER.out]; rfl, ownE.nil _ _, HB5.out, fun _ => rfl, fun h => absurd (HER.out.symm.trans h) he0⟩
  · have HE : Hid (errT L b d lim = z) := Lib.hid (by rw [err_params (by rw [HZ.out]; exact h0)]; exact HZ.out)
    go_wp2
    go_ret2
    exact ⟨_, [], by rw [HE.out]; rfl, ownE.nil _ _, HBE.out.trans (HB1.out.mono HBE.out.size), fun _ => rfl, fun h => absurd (HE.out.symm.trans h) h0⟩
end Go.Proofs.YtnmacalbbmeedaaGreat
/- The readers of a learner's objects, their making; what stands between two steps, plain. -/
namespace Go.Proofs.YtnmacalbbmeedaaGreat
open Go.RowKit Go.Maps Go.Shelf

variable {w w' : World} {S : Nat → Prop} {Kx Kq T N : Nat} {J : List Joint} {M : Mdl} {q : Qm}
set_option maxRecDepth 100000 in
theorem t3_pairs (h : Tr3 w S Kx Kq T N J M q) (hl : M.cnt.length ≤ 1000000) : Calls Tryz.prog 32 #[.pointer (some ⟨Kx, 0, none⟩)] w fun e w' => RisRet w M.cnt e w' := by
  obtain ⟨lab, V, tv, tb, Sq, h1, h2, h3, h4, h5⟩ := h
  exact xpairs_any Kx N lab V M w h1 hl
set_option maxRecDepth 100000 in
theorem t3_syms (h : Tr3 w S Kx Kq T N J M q) {j : Nat} {X : List Int} {t : Int} (hj : M.ws[j]? = some (X, t)) : Calls Tryz.prog 40 #[.pointer (some ⟨Kx, 0, none⟩), .int .i64 (j : Int)] w fun e w' => ∃ r, e = .returned r ∧ ownE intE w' w.heap.size r X ∧ Below w.heap.size w w' := by
  obtain ⟨lab, V, tv, tb, Sq, h1, h2, h3, h4, h5⟩ := h
  exact xsyms_any Kx N lab V M j X t w h1 hj
set_option maxRecDepth 100000 in
theorem t3_stats (h : Tr3 w S Kx Kq T N J M q) : Calls Tryz.prog 37 #[.pointer (some ⟨Kq, 0, none⟩)] w fun e w' => e = .returned (statsV q.pu q.po q.pk q.re) ∧ Grown w w' := by
  obtain ⟨lab, V, tv, tb, Sq, h1, h2, h3, h4, h5⟩ := h
  exact zstats_any h2
set_option maxRecDepth 100000 in
theorem t3_merges (h : Tr3 w S Kx Kq T N J M q) (hJ : J.length ≤ 900000) : Calls Tryz.prog 42 #[.pointer (some ⟨T, 0, none⟩)] w fun e w' => ∃ r, e = .returned r ∧ ownE mergeE w' w.heap.size r (mergesOf J) ∧ Below w.heap.size w w' := by
  obtain ⟨lab, V, tv, tb, Sq, h1, h2, h3, h4, h5⟩ := h
  exact smerges_any T tv tb J w h2.stab.1 hJ
set_option maxRecDepth 100000 in
/-- The three of them side by side. -/
theorem t3_made {lab : Nat → Lab} {V : Int × Int → Value} {tv : Value} {tb : Option Nat} {Sq : Nat → Prop} (h1 : IxM w lab Kx N V M) (h2 : Lz w Sq Kq T tv tb J q) (h3 : ∀ k, Sq k → lab k = .no) : Tr3 w (fun k => lab k ≠ .no ∨ Sq k) Kx Kq T N J M q :=
  ⟨lab, V, tv, tb, Sq, h1, h2, h3, fun _ h => h, fun k hk => by
    rcases hk with hk | hk
    · exact Classical.byContradiction fun e => hk (h1.fresh (by omega))
    · exact h2.lt k hk⟩
set_option maxRecDepth 100000 in
set_option maxHeartbeats 1000000 in
theorem txsyms_out (K N : Nat) (lab : Nat → Lab) (V : Int × Int → Value) (M : Mdl) (z : Int) (w : World) (h : IxM w lab K N V M) (hz : z < 0 ∨ (M.ws.length : Int) ≤ z) : Calls Tryz.prog 40 #[.pointer (some ⟨K, 0, none⟩), .int .i64 z] w fun e w' => e = .returned (.slice none 0 0) ∧ w' = w := by
  have hrow : ∃ a c, w.cell? ⟨K, 0, none⟩ = some (.slice a M.ws.length c) := by
    obtain ⟨wv, Kc, mc, b, E, h⟩ := h
    have h1 := h.cells.1
    obtain ⟨a, c, rfl, _⟩ := h.row.form
    exact ⟨a, c, by rw [h1, h.len]⟩
  obtain ⟨a, c, c0⟩ := hrow
  obtain ⟨n, hn⟩ : ∃ n, M.ws.length = n := ⟨_, rfl⟩
  rw [hn] at c0 hz
  clear h hn
  by_cases h0 : z < 0
  · have hd : decide (z < 0) = true := decide_eq_true h0
    clear hz
    go_enter Tryz.func40, Tryz.ntmps40
    go_wp2
    go_ret
    exact ⟨rfl, rfl⟩
  · have h1 : (n : Int) ≤ z := hz.resolve_left h0
    have hd : decide (z < 0) = false := decide_eq_false h0
    have hd1 : decide ((n : Int) ≤ z) = true := decide_eq_true h1
    clear hz
    go_enter Tryz.func40, Tryz.ntmps40
    go_wp2
    go_ret
    exact ⟨rfl, rfl⟩
set_option maxRecDepth 100000 in
theorem t3_symsOut (h : Tr3 w S Kx Kq T N J M q) {z : Int} (hz : z < 0 ∨ (M.ws.length : Int) ≤ z) : Calls Tryz.prog 40 #[.pointer (some ⟨Kx, 0, none⟩), .int .i64 z] w fun e w' => e = .returned (.slice none 0 0) ∧ w' = w := by
  obtain ⟨lab, V, tv, tb, Sq, h1, h2, h3, h4, h5⟩ := h
  exact txsyms_out Kx N lab V M z w h1 hz
set_option maxRecDepth 100000 in
/-- No word is empty. -/
theorem mergeL_some {p : Int × Int} {s : Int} : ∀ {X : List Int}, X ≠ [] → mergeL p s X ≠ []
  | [], h => absurd rfl h
  | [_], _ => by simp [mergeL]
  | x :: y :: r, _ => by rw [mergeL]; split <;> simp
/-- What stands between two steps: J the joints, M the index, q the queue; ms were learnt. -/
structure TrAll (L : Bag) (d : Int) (N : Nat) (J : List Joint) (M : Mdl) (q : Qm) (ms : List Mg) : Prop where
  st : TrS L d J M.ws q ms
  good : ∃ had, GoodM M (newS J) had
  pos : M.pos = lenW M.ws
  tou : 0 ≤ M.tou ∧ M.tou ≤ 100 * (ms.length : Int)
  num : N = 200000 + 300000 * ms.length
  full : ∀ x ∈ M.ws, x.1 ≠ []
variable {L : Bag} {d : Int} {ms : List Mg}
/-- What holds of the numbers. -/
structure SmallT (L : Bag) (N : Nat) (J : List Joint) (M : Mdl) (q : Qm) (ms : List Mg) : Prop where
  few : ms.length ≤ 300
  jl : J.length = ms.length
  new : newS J = 256 + (ms.length : Int)
  len : 0 ≤ lenW M.ws ∧ lenW M.ws ≤ 300
  wds : M.ws.length = L.length
  cnt : M.cnt.length ≤ 300
  pos : 0 ≤ M.pos ∧ M.pos ≤ 300
  tou : 0 ≤ M.tou ∧ M.tou ≤ 30000
  num : N ≤ 100000000
set_option maxRecDepth 100000 in
theorem TrAll.small (h : TrAll L d N J M q ms) (hB : bytesOf L ≤ 300) : SmallT L N J M q ms := by
  obtain ⟨had, hg⟩ := h.good
  have h1 := h.st.len
  have h2 := lenW_pos M.ws
  have h3 := h.st.jlen
  have h4 := cn_len hg.cnt hg.pos hg.tells
  have h5 := congrArg List.length h.st.words
  rw [runT_len, startW_len] at h5
  have h6 : (txWs J M.ws).length = M.ws.length := by simp [txWs]
  have h7 := h.pos
  have h8 := h.tou
  have h9 := h.num
  have hm : ms.length ≤ 300 := by omega
  exact ⟨hm, h3, by unfold newS; omega, ⟨h2, by omega⟩, by omega, by omega, by omega, by omega, by omega⟩
set_option maxRecDepth 100000 in
theorem TrAll.tells (h : TrAll L d N J M q ms) : (fun p => getC M.cnt p) = totW M.ws := by
  obtain ⟨had, hg⟩ := h.good
  exact funext hg.tells
set_option maxRecDepth 100000 in
theorem pb_nodup {Y : List (Int × Int)} (h : Y.Pairwise pb) : Y.Nodup := h.imp fun {a b} hab e => by subst e; exact pb_irrefl _ hab
set_option maxRecDepth 100000 in
theorem newS_more (J : List Joint) (p : Int × Int) : newS (moreJ J p) = newS J + 1 := by unfold newS moreJ; rw [List.length_append, List.length_singleton]; omega
set_option maxRecDepth 100000 in
/-- At the beginning. -/
theorem TrAll.start (hr : (checkOf L).2 = 0) {had : Int × Int → Int → Prop} (hg : GoodM M 256 had) (hw : M.ws = wsOf L) (hp : M.pos = (bytesOf L : Int)) (ht : M.tou = 0) : TrAll L d 200000 [] M (putsQ (capT d fun p => getC M.cnt p) (keysC M.cnt) newQ) [] := by
  have e : (fun p => getC M.cnt p) = totW (wsOf L) := by rw [← hw]; exact funext hg.tells
  refine ⟨?_, ⟨had, hg⟩, by rw [hw, ws_bytes, hp], by rw [ht]; simp, rfl, fun x hx => ?_⟩
  rotate_left
  · rw [hw] at hx
    obtain ⟨y, hy, rfl⟩ := List.mem_map.1 hx
    have h1 := ((right_facts hr).1 y hy).1
    exact fun e => by have := syms_len y.1; rw [show syms y.1 = [] from e] at this; simp at this; omega
  rw [hw, e]
  exact TrS.start hr (keys_nodup hg.cnt.ris) fun r => by rw [keys_get hg.cnt, hg.tells, hw]
set_option maxRecDepth 100000 in
/-- A step. -/
theorem TrAll.step (h : TrAll L d N J M q ms) (hl : 1 ≤ d) (hB : bytesOf L ≤ 300) {x : Item} {l : List Item} {n : Nat} (hp : Pops J (fun p => getC M.cnt p) q.ents (some x) l n) {Y : List (Int × Int)} {M' : Mdl} {had : Int × Int → Int → Prop} {z : Int}
    (hY : Y.Pairwise pb) (hi : ∀ q, q ∈ Y ↔ getC M'.cnt q ≠ getC M.cnt q) (hw : M'.ws = mergeWs (pairI x) (newS J) M.ws) (hg : GoodM M' (newS J + 1) had) (hps : M'.pos = M.pos - z) (hz : z + lenW M'.ws = lenW M.ws) (t1 : M.tou ≤ M'.tou) (t2 : M'.tou ≤ M.tou + 100) :
    TrAll L d (N + 3000 * 100) (moreJ J (pairI x)) M' (putsQ (capT d fun p => getC M'.cnt p) Y (popQ q (some x) l n)) (ms ++ [mgOf J (pairI x)]) := by
  have e1 := h.tells
  have e2 : (fun p => getC M'.cnt p) = totW M'.ws := funext hg.tells
  rw [e1] at hp
  have hi2 : ∀ r, r ∈ Y ↔ totW (mergeWs (pairI x) (newS J) M.ws) r ≠ totW M.ws r := fun r => by
    rw [hi r, ← hw, hg.tells, ← e1]
  obtain ⟨_, hs⟩ := h.st.step hl (by omega) hp (pb_nodup hY) hi2
  refine ⟨?_, ⟨had, by rw [newS_more]; exact hg⟩, ?_, ?_, ?_, fun y hy => ?_⟩
  rotate_left 4
  · rw [hw] at hy
    obtain ⟨z, hz, rfl⟩ := List.mem_map.1 hy
    exact mergeL_some (h.full z hz)
  · rw [e2, hw]; exact hs
  · have := h.pos; omega
  · have := h.tou
    rw [List.length_append, List.length_singleton]
    omega
  · have := h.num
    rw [List.length_append, List.length_singleton]
    omega
set_option maxRecDepth 100000 in
/-- The best one, popped: it can be joined. -/
theorem TrAll.best (h : TrAll L d N J M q ms) (hl : 1 ≤ d) (hB : bytesOf L ≤ 300) {x : Item} {l : List Item} {n : Nat} (hp : Pops J (fun p => getC M.cnt p) q.ents (some x) l n) :
    BestRel (runT (startW L) ms) (countsOf L) (mgOf J (pairI x)) x.2.2 ∧ ThereP J (pairI x) ∧ FitsPr (pairI x) ∧ d ≤ x.2.2 ∧ joinOf J x.1 x.2.1 = ((newS J, 0), moreJ J (pairI x)) := by
  rw [h.tells] at hp
  obtain ⟨a1, a2, a3, a4, a5, a6⟩ := h.st.qok.best h.st.good h.st.all h.st.sane h.st.low hp
  have hj := h.st.joins hl (by omega) a2 a1 a4
  rw [h.st.words, h.st.cts] at a1
  exact ⟨a1, a2, a3, a6, hj⟩
set_option maxRecDepth 100000 in
/-- None comes: it is the end, and stays so. -/
theorem TrAll.ends (h : TrAll L d N J M q ms) (hl : 1 ≤ d) {l : List Item} {n : Nat} (hp : Pops J (fun p => getC M.cnt p) q.ents none l n) :
    TrAll L d N J M (popQ q none l n) ms ∧ ∃ m k, BestRel (runT (startW L) ms) (countsOf L) m k ∧ k < d := by
  rw [h.tells] at hp
  obtain ⟨a1, a2⟩ := h.st.ends hl hp
  exact ⟨⟨a1, h.good, h.pos, h.tou, h.num, h.full⟩, a2⟩
set_option maxRecDepth 100000 in
/-- What was counted. -/
theorem TrAll.bound (h : TrAll L d N J M q ms) : BoundS ⟨(bytesOf L : Int), (ms.length : Int), q.pu, q.po, q.pk, q.re⟩ (bytesOf L) ms.length := by
  obtain ⟨b1, b2, b3, b4, b5⟩ := h.st.bounds
  exact ⟨rfl, rfl, b1, b2, b3, b4, by omega⟩
set_option maxRecDepth 100000 in
theorem TrAll.pu (h : TrAll L d N J M q ms) (hB : bytesOf L ≤ 300) : q.pu ≤ 1500 := by
  obtain ⟨b1, b2, b3, b4, b5⟩ := h.st.bounds
  omega
/-- What is put, one behind another. -/
def TrPt (d : Int) (w : World) (S : Nat → Prop) (Kx Kq T N : Nat) (J : List Joint) (M : Mdl) (q : Qm) (Y : List (Int × Int)) (i : Nat) (w' : World) : Prop :=
  ∃ S', Tr3 w' S' Kx Kq T N J M (putsQ (capT d fun p => getC M.cnt p) (Y.take i) q) ∧ Stp S S' w w'
set_option maxRecDepth 100000 in
theorem TrPt.start {Y : List (Int × Int)} (h : Tr3 w S Kx Kq T N J M q) : TrPt d w S Kx Kq T N J M q Y 0 w := ⟨S, h, ⟨Kept.refl S w, fun _ h _ => h⟩⟩
set_option maxRecDepth 100000 in
theorem TrPt.grown {Y : List (Int × Int)} {i : Nat} {wr : World} (h : TrPt d w S Kx Kq T N J M q Y i wr) (hb : Below wr.heap.size wr w') : TrPt d w S Kx Kq T N J M q Y i w' := by
  obtain ⟨S', h1, h2⟩ := h
  exact ⟨S', h1.below hb, h2.trans (Stp.of_below hb)⟩
set_option maxRecDepth 100000 in
theorem TrPt.next {Y : List (Int × Int)} {i : Nat} {wr w' : World} (hi : i < Y.length) {S' : Nat → Prop} (h2 : Stp S S' w wr) (h : T3Step wr S' Kx Kq T N J M (putQ (putsQ (capT d fun p => getC M.cnt p) (Y.take i) q) Y[i] (capT d (fun p => getC M.cnt p) Y[i])) w') : TrPt d w S Kx Kq T N J M q Y (i + 1) w' := by
  obtain ⟨S2, a1, a2⟩ := h
  refine ⟨S2, ?_, h2.trans a2⟩
  rw [List.take_succ_eq_append_getElem hi, putsQ_snoc]
  exact a1
set_option maxRecDepth 100000 in
theorem puts_few {t : Int × Int → Int} {Y : List (Int × Int)} (i : Nat) (q : Qm) : (putsQ t (Y.take i) q).pu ≤ q.pu + (Y.length : Int) := by
  obtain ⟨h1, _⟩ := puts_pu (t := t) (Y.take i) q
  have h2 := List.length_filter_le (fun r => decide (1 ≤ t r)) (Y.take i)
  have h3 : (Y.take i).length ≤ Y.length := by rw [List.length_take]; omega
  omega
end Go.Proofs.YtnmacalbbmeedaaGreat
