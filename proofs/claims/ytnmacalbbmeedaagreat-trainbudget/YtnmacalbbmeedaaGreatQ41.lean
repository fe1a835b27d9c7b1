/- Texts in one: NvLW, NvG, NvA. -/
import Derived.Test.YtnmacalbbmeedaaGreatQ10
import Derived.Deep.LoopGhost
import Derived.Test.YtnmacalbbmeedaaGreatQ03
import Derived.BigQuiet
import Derived.Test.YtnmacalbbmeedaaGreatQ09
/- The document's own Learn, walked. (Its text by wip/tools/gen_nvlearn.py.) -/
namespace Go.Proofs.YtnmacalbbmeedaaGreat
open Go.RowKit

def LnRel1 (L : Bag) (w : World) (v u i : Value) (wr : World) : Prop :=
  ∃ k : Nat, i = .int .i64 (k : Int) ∧ k ≤ L.length ∧ rowsO wr w.heap.size v ((startW L).take k) ∧ ownE intE wr w.heap.size u ((countsOf L).take k) ∧ Below w.heap.size w wr
/-- What stands while merges are learnt. -/
structure LnS (L : Bag) (least : Int) (w : World) (u vO vW : Value) (ms : List Mg) (wr : World) : Prop where
  out : ownE mergeE wr w.heap.size vO ms
  words : rowsO wr w.heap.size vW (runT (startW L) ms)
  counts : ownE intE wr w.heap.size u (countsOf L)
  bel : Below w.heap.size w wr
  each : ∀ i (h : i < ms.length), ∃ n, BestRel (runT (startW L) (ms.take i)) (countsOf L) ms[i] n ∧ least ≤ n
def LnRel2 (L : Bag) (budget least : Int) (w : World) (u : Value) (g : Nat) (vO vW : Value) (wr : World) : Prop :=
  ∃ ms, LnS L least w u vO vW ms wr ∧ (ms.length : Int) ≤ max budget 0 ∧ g = (budget - ms.length).toNat
/-- What stands while the words are merged: the pair b lies in block M, the first i words behind it in vN. -/
structure LnI (L : Bag) (w : World) (M : Nat) (b : Mg) (u vO vW vN : Value) (ms : List Mg) (i : Nat) (wr : World) : Prop where
  out : ownE mergeE wr w.heap.size vO (ms ++ [b])
  words : rowsO wr w.heap.size vW (runT (startW L) ms)
  counts : ownE intE wr w.heap.size u (countsOf L)
  next : rowsO wr w.heap.size vN (((runT (startW L) ms).take i).map (joinT b))
  box : wr.heap[M]? = some (.cells #[.string b.1, .string b.2] 42 (0, 0))
  wn : ∀ g, vW.ownBlock = some g → vN.ownBlock ≠ some g
  bel : Below w.heap.size w wr
def LnRel3 (L : Bag) (w : World) (M : Nat) (b : Mg) (u vO vW : Value) (ms : List Mg) (vN x : Value) (wr : World) : Prop :=
  ∃ i : Nat, x = .int .i64 (i : Int) ∧ i ≤ L.length ∧ LnI L w M b u vO vW vN ms i wr
variable {L : Bag} {least : Int} {w wr w' : World} {u vO vW vN r : Value} {ms : List Mg} {M i : Nat} {b : Mg}
set_option maxRecDepth 100000 in
theorem LnS.below (h : LnS L least w u vO vW ms wr) (hb : Below wr.heap.size wr w') : LnS L least w u vO vW ms w' :=
  ⟨h.out.below hb, h.words.below hb, h.counts.below hb, h.bel.trans (hb.mono h.bel.size), h.each⟩
set_option maxRecDepth 100000 in
theorem LnI.below (h : LnI L w M b u vO vW vN ms i wr) (hb : Below wr.heap.size wr w') : LnI L w M b u vO vW vN ms i w' :=
  ⟨h.out.below hb, h.words.below hb, h.counts.below hb, h.next.below hb, (hb.block M (Array.getElem?_eq_some_iff.1 h.box).1).trans h.box, h.wn, h.bel.trans (hb.mono h.bel.size)⟩
set_option maxRecDepth 100000 in
theorem LnI.drew (h : LnI L w M b u vO vW vN ms i wr) : LnI L w M b u vO vW vN ms i wr.drew := h.below (Below.refl _ _).drew
set_option maxRecDepth 100000 in
theorem LnI.alloc (h : LnI L w M b u vO vW vN ms i wr) (o : Obj) : LnI L w M b u vO vW vN ms i (wr.alloc o) := h.below ((Below.refl _ _).alloc (Nat.le_refl _) o)
set_option maxRecDepth 100000 in
/-- One more word behind the merge. -/
theorem LnI.grown {E : List Hs} {e : Hs} {W : List ByteArray} (h : LnI L w M b u vO vW vN ms i wr) (h1 : E.length = (((runT (startW L) ms).take i).map (joinT b)).length) (h2 : ownE slTE wr w.heap.size vN E)
    (h3 : ∀ j (h : j < E.length) (h' : j < (((runT (startW L) ms).take i).map (joinT b)).length), ownE textE wr w.heap.size (hsV E[j]) (((runT (startW L) ms).take i).map (joinT b))[j]) (hr : ownE textE wr w.heap.size (hsV e) W)
    (ho : ownE slTE w' w.heap.size r (E ++ [e])) (hg : wr.grownBy w' vN.ownBlock) (hl : r.ownBlock = vN.ownBlock ∨ r.ownBlock = some wr.heap.size) (hW : (((runT (startW L) ms).take i).map (joinT b)) ++ [W] = ((runT (startW L) ms).take (i + 1)).map (joinT b)) : LnI L w M b u vO vW r ms (i + 1) w' := by
  have hty : ∀ {α : Type} {R : Elt α} {v : Value} {A : List α}, ownE R wr w.heap.size v A → R.ty ≠ slTE.ty → ownE R w' w.heap.size v A := fun k hne => k.kept fun g hgo => hg.block g (k.lt g hgo).2 fun e => own_types k h2 hne g hgo e.symm
  have hwd : rowsO w' w.heap.size vW (runT (startW L) ms) := by
    obtain ⟨F, f1, f2, f3⟩ := h.words
    exact ⟨F, f1, f2.kept fun g hgo => hg.block g (f2.lt g hgo).2 fun e => h.wn g hgo e.symm, fun j a c => hty (f3 j a c) (by decide)⟩
  have hlt : ∀ g, vW.ownBlock = some g → g < wr.heap.size := by
    obtain ⟨F, f1, f2, f3⟩ := h.words
    exact fun g e => (f2.lt g e).2
  refine ⟨hty h.out (by decide), hwd, hty h.counts (by decide), ?_, (hg.block M (Array.getElem?_eq_some_iff.1 h.box).1 fun e => ?_).trans h.box, fun g e1 e2 => ?_, h.bel.grown hg h.bel.size fun g e => (h2.lt g e).1⟩
  · rw [← hW]; exact rowsO.app h1 h2 h3 hr ho hg
  · obtain ⟨cs, hc⟩ := h2.block M e.symm
    rw [h.box] at hc
    injection hc with hc
    injection hc with _ hc
    exact absurd hc (by decide)
  · rcases hl with hl | hl
    · exact h.wn g e1 (by rw [← hl]; exact e2)
    · rw [hl] at e2
      injection e2 with e2
      have := hlt g e1
      omega
abbrev AtJ (ad : Addr) (i M : Nat) (ai : Option Addr) (n ci : Nat) (bl br : ByteArray) (W : World) : Prop := W.cell? (ad.add i) = some (.slice ai n ci) ∧ W.cell? ⟨M, 0, none⟩ = some (.string bl) ∧ W.cell? ⟨M, 1, none⟩ = some (.string br)
def LnRet (L : Bag) (budget least : Int) (w : World) (e : Ending) (w' : World) : Prop :=
  ∃ v ms, e = .returned v ∧ ownE mergeE w' w.heap.size v ms ∧ Below w.heap.size w w' ∧ (((checkOf L).2 ≠ 0 ∨ least < 1) → ms = []) ∧ ((checkOf L).2 = 0 → 1 ≤ least → Learned (startW L) (countsOf L) budget least ms)
set_option maxRecDepth 100000 in
set_option maxHeartbeats 16000000 in
theorem rlearn_any (x : Value) (L : Bag) (budget least : Int) (w : World) (hx : wordsAt w x L) (hL : L.length ≤ 1000000) (hf : Fits L) (hb : bytesOf L ≤ 500000) :
    Calls Tryz.prog 24 #[x, .int .i64 budget, .int .i64 least] w fun e w' => LnRet L budget least w e w' := by
  have hmixed : Tryz.prog.follows .mixedOrders = true := by kernel_rfl
  have cK := refCheck_any x L w hx hL hf
  obtain ⟨a, cap, rfl, _⟩ := id hx
  obtain ⟨N, hN⟩ : ∃ N, L.length = N := ⟨_, rfl⟩
  obtain ⟨er, her⟩ : ∃ er, (checkOf L).2 = er := ⟨_, rfl⟩
  obtain ⟨ep, hep⟩ : ∃ er, (checkOf L).1 = er := ⟨_, rfl⟩
  rw [hN] at cK ⊢
  rw [her, hep] at cK
  have HX := Lib.hid hx
  have HN := Lib.hid hN
  have HF := Lib.hid hf
  have HER := Lib.hid her
  have HBY := Lib.hid hb
  have hNl : N ≤ 1000000 := by omega
  clear hx hN hf her hep hb
  go_enter Tryz.func24, Tryz.ntmps24
  go_wp2_with fail
  refine cK.mono ?_
  rintro e w1 ⟨rfl, n1, rfl⟩
  clear cK
  have HB1 : Hid (Below w.heap.size w (w.drewN n1)) := Lib.hid (below_drewN' (Below.refl _ _) n1)
  generalize w.drewN n1 = w1 at *
  by_cases he0 : er = 0
  · subst he0
    by_cases hd : least < 1
    · go_wp2
      go_ret
      exact ⟨_, [], rfl, ownE.nil _ _, HB1.out, fun _ => rfl, fun _ h => by omega⟩
    · have HCAP := Lib.hid (right_cap HER.out)
      have HST : Hid (LnRel1 L w (.slice none 0 0) (.slice none 0 0) (.int .i64 0) w1) := Lib.hid ⟨0, rfl, Nat.zero_le _, rowsO.nil _ _, ownE.nil _ _, HB1.out⟩
      go_wp2
      go_loopw [10, 11, 12] (fun v u i wr => LnRel1 L w v u i wr) (fun _ _ i _ => N - (intOf i).toNat)
      case atStart => exact HST.out
      case round =>
        clear HST
        obtain ⟨k, rfl, hk, hrows, hcn, hbel⟩ := hrel
        rw [HN.out] at hk
        have HR := Lib.hid hrows; have HC := Lib.hid hcn; have HB := Lib.hid hbel
        clear hrows hcn hbel
        by_cases hgo : k < N
        · have hgoI : (k : Int) < (N : Int) := by omega
          have hkL : k < L.length := by rw [HN.out]; exact hgo
          have hX := HX.out
          rw [HN.out] at hX
          obtain ⟨ad, rfl⟩ : ∃ ad, a = some ad := by
            obtain ⟨_, _, e1, hc⟩ := HX.out
            obtain ⟨ad, e2, _⟩ := hc k hkL
            exact ⟨ad, (Value.slice.inj e1).1.trans e2⟩
          have HWD : Hid (∀ W', Below w.heap.size w W' → W'.cell? (ad.add (k * 2)) = some (.string L[k].1) ∧ W'.cell? ⟨(ad.add (k * 2)).block, (ad.add (k * 2)).off + 1, none⟩ = some (.int .i64 L[k].2)) := Lib.hid fun W' hb' => words_at HX.out hb' hkL
          obtain ⟨⟨s, c⟩, hsc⟩ : ∃ p, L[k] = p := ⟨_, rfl⟩
          rw [hsc] at HWD
          simp only at HWD
          have hss : s.size ≤ 500000 := by
            have h3 : ∀ M : Bag, (s, c) ∈ M → s.size ≤ bytesOf M := by
              intro M
              induction M with
              | nil => intro h; simp at h
              | cons q r ih =>
                intro h
                have e : bytesOf (q :: r) = q.1.size + bytesOf r := by simp [bytesOf]
                rw [e]
                rcases List.mem_cons.1 h with h | h
                · rw [← h]; exact Nat.le_add_right _ _
                · have := ih h; omega
            have := h3 L (by rw [← hsc]; exact List.getElem_mem _)
            have := HBY.out
            omega
          obtain ⟨t0, t1⟩ := HWD.out wr HB.out
          have cT := rtexts_any s wr (by omega)
          have hwk : IntKind.i64.wrap ((k : Int) + 1) = (k : Int) + 1 := IntWalk.i64_in _ (by omega)
          have HTK : Hid ((startW L).take (k + 1) = (startW L).take k ++ [bytesT s] ∧ (countsOf L).take (k + 1) = (countsOf L).take k ++ [c] ∧ ((startW L).take k).length = k ∧ ((countsOf L).take k).length = k) := Lib.hid (by
            have l1 : k < (startW L).length := by rw [startW_len]; exact hkL
            have l2 : k < (countsOf L).length := by unfold countsOf; rw [List.length_map]; exact hkL
            refine ⟨?_, ?_, by rw [List.length_take]; omega, by rw [List.length_take]; omega⟩
            · rw [List.take_succ_eq_append_getElem l1]; simp [startW, hsc]
            · rw [List.take_succ_eq_append_getElem l2]; simp [countsOf, hsc])
          clear hX hsc
          go_wp2_with fail
          refine cT.mono ?_
          rintro e w5 ⟨r, rfl, hr, hb5⟩
          obtain ⟨E, e1, e2, e3⟩ := HR.out.below hb5
          have hbw5 := HB.out.trans (hb5.mono HB.out.size)
          have hc5 := HC.out.below hb5
          have hrb := hr.mono (b' := w.heap.size) HB.out.size
          obtain ⟨ra, rc, er, _⟩ := hr.form
          subst er
          have HE1 := Lib.hid e1
          have HE2 : Hid (ownE slTE (w5.alloc (.cells #[.slice ra (bytesT s).length rc] 52)) w.heap.size u10 E) := Lib.hid (e2.alloc _)
          have HE3 : Hid (∀ i (h : i < E.length) (h' : i < ((startW L).take k).length), ownE textE (w5.alloc (.cells #[.slice ra (bytesT s).length rc] 52)) w.heap.size (hsV E[i]) ((startW L).take k)[i]) := Lib.hid fun i a b => (e3 i a b).alloc _
          have HRB : Hid (ownE textE (w5.alloc (.cells #[.slice ra (bytesT s).length rc] 52)) w.heap.size (hsV (ra, (bytesT s).length, rc)) (bytesT s)) := Lib.hid (hrb.alloc _)
          have HEL : Hid (eltsAt slTE (w5.alloc (.cells #[.slice ra (bytesT s).length rc] 52)) (.slice (some ⟨w5.heap.size, 0, none⟩) 1 1) [(ra, (bytesT s).length, rc)]) := Lib.hid (one_elt slTE w5 _)
          have HB5 : Hid (Below w.heap.size w (w5.alloc (.cells #[.slice ra (bytesT s).length rc] 52))) := Lib.hid (hbw5.alloc hbw5.size _)
          have HC5 : Hid (ownE intE (w5.alloc (.cells #[.slice ra (bytesT s).length rc] 52)) w.heap.size u11 ((countsOf L).take k)) := Lib.hid (hc5.alloc _)
          clear cT t0 t1 hr hb5 e1 e2 e3 hbw5 hc5 hrb
          go_wp2_with (first
            | (at_builtin
               refine wpList_append_elts slTE rfl (.tmp 35) (.tmp 42) rfl w.heap.size u10 _ E [(ra, (bytesT s).length, rc)] rfl rfl HE2.out HEL.out (someNone _ _ _) (by rw [HE1.out, HTK.out.2.2.1]; simp only [List.length_singleton]; omega) HB5.out.size ?_
               intro r6 w6 ho6 hg6 _
               have HR6 := Lib.hid (rowsO.app HE1.out HE2.out HE3.out HRB.out ho6 hg6)
               have hb6 : Below w.heap.size w w6 := HB5.out.grown hg6 HB5.out.size fun g e => (HE2.out.lt g e).1
               have hc6 : ownE intE w6 w.heap.size u11 ((countsOf L).take k) := HC5.out.kept fun g hgo => hg6.block g (HC5.out.lt g hgo).2 fun e => own_types HC5.out HE2.out (by decide) g hgo e.symm
               have HB7 : Hid (Below w.heap.size w (w6.alloc (.cells #[.int .i64 c] 3))) := Lib.hid (hb6.alloc hb6.size _)
               have HC7 : Hid (ownE intE (w6.alloc (.cells #[.int .i64 c] 3)) w.heap.size u11 ((countsOf L).take k)) := Lib.hid (hc6.alloc _)
               have HR7 : Hid (rowsO (w6.alloc (.cells #[.int .i64 c] 3)) w.heap.size r6 ((startW L).take k ++ [bytesT s])) := Lib.hid (HR6.out.below ((Below.refl _ w6).alloc (Nat.le_refl _) _))
               have HI7 : Hid (eltsAt intE (w6.alloc (.cells #[.int .i64 c] 3)) (.slice (some ⟨w6.heap.size, 0, none⟩) 1 1) [c]) := Lib.hid (one_elt intE w6 c)
               obtain ⟨q0, q1⟩ := HWD.out w6 hb6
               clear ho6 hg6 hb6 hc6)
            | (at_builtin
               refine wpList_append_elts intE rfl (.tmp 44) (.tmp 50) rfl w.heap.size u11 _ ((countsOf L).take k) [c] rfl rfl HC7.out HI7.out (someNone _ _ _) (by rw [HTK.out.2.2.2]; simp only [List.length_singleton]; omega) HB7.out.size ?_
               intro r8 w8 ho8 hg8 _
               have HC8 := Lib.hid ho8
               have HR8 := Lib.hid (HR7.out.grown HC7.out (by decide) (by decide) hg8)
               have HB8 : Hid (Below w.heap.size w w8) := Lib.hid (HB7.out.grown hg8 HB7.out.size fun g e => (HC7.out.lt g e).1)
               clear ho8 hg8 q0 q1))
          go_roundw
          case measure => simp [intOf]; omega
          case rel => exact ⟨k + 1, by simp, by rw [HN.out]; omega, by rw [HTK.out.1]; exact HR8.out, by rw [HTK.out.2.1]; exact HC8.out, HB8.out⟩
        · have hgoI : ¬ (k : Int) < (N : Int) := by omega
          obtain rfl : k = N := by omega
          have hr0 : rowsO wr w.heap.size u10 (startW L) := by
            have h1 := HR.out
            rwa [List.take_of_length_le (by rw [startW_len, HN.out]; omega)] at h1
          have hc0 : ownE intE wr w.heap.size u11 (countsOf L) := by
            have h1 := HC.out
            rwa [List.take_of_length_le (by unfold countsOf; rw [List.length_map, HN.out]; omega)] at h1
          have hst : LnS L least w u11 (.slice none 0 0) u10 [] wr := ⟨ownE.nil _ _, hr0, hc0, HB.out, fun i h => by simp at h⟩
          have HST : Hid (LnRel2 L budget least w u11 (budget - 0).toNat (.slice none 0 0) u10 wr) := Lib.hid ⟨[], hst, by show (0 : Int) ≤ max budget 0; omega, rfl⟩
          have HD : Hid (1 ≤ least) := Lib.hid (by omega)
          clear hr0 hc0 hst HR HC
          go_wp2
          go_loopg [7, 10] (budget - 0).toNat (fun g vO vW wr => LnRel2 L budget least w u11 g vO vW wr)
          case atStart => exact HST.out
          case round =>
            clear HST
            obtain ⟨ms, hst, hml, hgk⟩ := hrel
            have HST := Lib.hid hst
            have HML := Lib.hid hml
            have HGK := Lib.hid hgk
            have hsh := learned_short (C := countsOf L) HD.out hst.each ms.length (Nat.le_refl _)
            rw [start_all] at hsh
            have HSH : Hid (ms.length ≤ 500000) := Lib.hid (by have := HBY.out; omega)
            obtain ⟨oa, oc, eo, _⟩ := hst.out.form
            subst eo
            obtain ⟨wa, wc, ew⟩ := hst.words.form
            rw [runT_len, startW_len, HN.out] at ew
            subst ew
            have hcf := hst.counts.form
            clear hst hml hgk hsh
            by_cases hlt : (ms.length : Int) < budget
            · have cB := rbest_any (.slice wa k wc) u11 (runT (startW L) ms) (countsOf L) wr HST.out.words.reads HST.out.counts.reads (by rw [runT_len, startW_len, HN.out]; omega) (by unfold countsOf; rw [List.length_map, HN.out]; omega) (by have := all_run ms (startW L); rw [start_all] at this; have := HBY.out; omega) (Int.le_trans (cap_run ms _ _) HCAP.out) (run_small (by have := HBY.out; omega) ms)
              go_wp2_with fail
              refine cB.mono ?_
              rintro e w2 ⟨b, nb, hbr, rfl, hb2⟩
              obtain ⟨bl, br⟩ := b
              have HST2 := Lib.hid (HST.out.below hb2)
              have HBR := Lib.hid hbr
              obtain ⟨M, hM⟩ : ∃ M, w2.heap.size = M := ⟨_, rfl⟩
              obtain ⟨wb, hwb⟩ : ∃ wb, w2.alloc (.cells #[.string bl, .string br] 42) = wb := ⟨_, rfl⟩
              have hbx : wb.heap[M]? = some (.cells #[.string bl, .string br] 42 (0, 0)) := by rw [← hwb, ← hM]; exact heap_alloc_new w2 _
              have hsb := HST2.out.below (show Below w2.heap.size w2 wb by rw [← hwb]; exact (Below.refl _ w2).alloc (Nat.le_refl _) _)
              have HSB := Lib.hid hsb
              have HBX := Lib.hid hbx
              have hmo : (Value.slice oa ms.length oc).ownBlock ≠ some M := fun e => by have := (HST2.out.out.lt M e).2; omega
              have HMO := Lib.hid hmo
              obtain ⟨q0, q1⟩ := two_cells hbx
              clear cB hbr hb2 hbx hsb hmo
              by_cases hn : nb < least
              · go_wp2
                go_ret
                exact ⟨_, ms, rfl, HSB.out.out, HSB.out.bel, fun h => absurd h (by have := HD.out; have := HER.out; omega), fun _ _ => ⟨HSB.out.each, HML.out, .inr ⟨_, nb, HBR.out, hn⟩⟩⟩
              · have HA : Hid (ownE mergeE (wb.alloc (.cells #[.string bl, .string br] 42)) w.heap.size (.slice oa ms.length oc) ms) := Lib.hid (HSB.out.out.alloc _)
                have HE : Hid (eltsAt mergeE (wb.alloc (.cells #[.string bl, .string br] 42)) (.slice (some ⟨wb.heap.size, 0, none⟩) 1 1) [(bl, br)]) := Lib.hid (one_elt mergeE wb (bl, br))
                go_wp2_with (at_builtin
                             refine wpList_append_elts mergeE rfl (.tmp 66) (.tmp 68) rfl w.heap.size (.slice oa ms.length oc) _ ms [(bl, br)] rfl rfl HA.out HE.out (someNone _ _ _) (by have := HSH.out; simp only [List.length_singleton]; omega) (by have := HSB.out.bel.size; rw [World.size_alloc]; omega) ?_
                             intro r6 w6 ho6 hg6 _
                             have hsz := HSB.out.bel.size
                             have hb6 : Below w.heap.size w w6 := (HSB.out.bel.alloc hsz _).grown hg6 (by rw [World.size_alloc]; omega) fun g e => (HA.out.lt g e).1
                             have hw6 := (HSB.out.words.below ((Below.refl _ wb).alloc (Nat.le_refl _) (.cells #[.string bl, .string br] 42))).grown HA.out (by decide) (by decide) hg6
                             have hc6 : ownE intE w6 w.heap.size u11 (countsOf L) := (HSB.out.counts.alloc (.cells #[.string bl, .string br] 42)).kept fun g hgo => hg6.block g ((HSB.out.counts.alloc (.cells #[.string bl, .string br] 42)).lt g hgo).2 fun e => own_types (HSB.out.counts.alloc (.cells #[.string bl, .string br] 42)) HA.out (by decide) g hgo e.symm
                             have hx6 : w6.heap[M]? = some (.cells #[.string bl, .string br] 42 (0, 0)) := (hg6.block M (by rw [World.size_alloc]; have := (Array.getElem?_eq_some_iff.1 HBX.out).1; omega) fun e => HMO.out e.symm).trans ((Below.heap_alloc _ _ _ (Array.getElem?_eq_some_iff.1 HBX.out).1).trans HBX.out)
                             have HI0 : Hid (LnRel3 L w M (bl, br) u11 r6 (.slice wa k wc) ms (.slice none 0 0) (.int .i64 0) w6) := Lib.hid ⟨0, rfl, Nat.zero_le _, ⟨ho6, hw6, hc6, by simpa using rowsO.nil w6 w.heap.size, hx6, fun g _ h => by simp [Value.ownBlock] at h, hb6⟩⟩
                             clear ho6 hg6 hb6 hw6 hc6 hx6 hsz q0 q1)
                go_loopw [15, 16] (fun vN x wr => LnRel3 L w M (bl, br) u11 r6 (.slice wa k wc) ms vN x wr) (fun _ x _ => k - (intOf x).toNat)
                case atStart => exact HI0.out
                case round =>
                  clear HI0
                  obtain ⟨i, rfl, hi, hI⟩ := hrel
                  rw [HN.out] at hi
                  have HI := Lib.hid hI
                  clear hI
                  by_cases hik : i < k
                  · have hikI : (i : Int) < (k : Int) := by omega
                    have hiR : i < (runT (startW L) ms).length := by rw [runT_len, startW_len, HN.out]; exact hik
                    have hRd := HI.out.words.reads
                    obtain ⟨ad, ai, ci, eai, hrow⟩ := hRd.row hiR
                    subst eai
                    obtain ⟨WI, hWI⟩ : ∃ W, (runT (startW L) ms)[i] = W := ⟨_, rfl⟩
                    rw [hWI] at hrow
                    obtain ⟨n, hn'⟩ : ∃ n, WI.length = n := ⟨_, rfl⟩
                    rw [hn'] at hrow
                    have hnl : n ≤ 500000 := by
                      have h1 := all_take hiR
                      have h2 := all_take_le (runT (startW L) ms) (i + 1)
                      have h3 := all_run ms (startW L)
                      rw [start_all] at h3
                      rw [hWI, hn'] at h1
                      have := HBY.out
                      omega
                    obtain ⟨b0, b1⟩ := two_cells HI.out.box
                    have HAJ : Hid (∀ W', Below wr.heap.size wr W' → AtJ ad i M ai n ci bl br W') := Lib.hid fun W' hb' => by
                      obtain ⟨c0, c1⟩ := two_cells ((hb'.block M (Array.getElem?_eq_some_iff.1 HI.out.box).1).trans HI.out.box)
                      exact ⟨(hrow W' hb').1, c0, c1⟩
                    have HWI : Hid (∀ W', Below wr.heap.size wr W' → eltsAt textE W' (.slice ai n ci) WI) := Lib.hid fun W' hb' => (hrow W' hb').2
                    have HWL : Hid (WI.length ≤ 500000) := Lib.hid (by omega)
                    have HBZ : Hid (bl.size + br.size ≤ 1000000) := Lib.hid (by
                      obtain ⟨W', hW', hc'⟩ := HBR.out.some (by have := HD.out; omega)
                      obtain ⟨P, Q, e⟩ := cnt_stands hc'
                      have h1 := run_small (Nat.le_refl _) ms W' hW' bl (by rw [e]; simp)
                      have h2 := run_small (Nat.le_refl _) ms W' hW' br (by rw [e]; simp)
                      have := HBY.out
                      omega)
                    have HNX : Hid ((((runT (startW L) ms).take i).map (joinT (bl, br))).length = i) := Lib.hid (by rw [List.length_map, List.length_take]; omega)
                    have HNW : Hid ((((runT (startW L) ms).take i).map (joinT (bl, br))) ++ [joinT (bl, br) WI] = ((runT (startW L) ms).take (i + 1)).map (joinT (bl, br))) := Lib.hid (by rw [List.take_succ_eq_append_getElem hiR, hWI, List.map_append]; rfl)
                    have hwi : IntKind.i64.wrap ((i : Int) + 1) = (i : Int) + 1 := IntWalk.i64_in _ (by omega)
                    clear hrow hRd b0 b1 hWI
                    go_wp2_with fail
                    have hB0 : Below wr.heap.size wr wr.drew := (Below.refl _ _).drew
                    have hS0 : AtJ ad i M ai n ci bl br wr.drew := HAJ.out _ hB0
                    refine region_K (S := AtJ ad i M ai n ci bl br) [8, 9] hmixed ?_
                    obtain ⟨W0, hW0⟩ : ∃ W0, wr.drew = W0 := ⟨_, rfl⟩
                    rw [hW0] at hS0 hB0 ⊢
                    clear hW0
                    refine K_at (i := 0) (oi := _) (v := ?_) rfl (by kernel_rfl) (by kernel_rfl) (by kernel_rfl) (by kernel_rfl) (fun _ _ _ h => h) (Or.inl ⟨by rfl, ?_⟩) (by assumption) ?_
                    rotate_left
                    · (intro w hSw; (try dsimp only at hSw); go_simp; try with_reducible rfl)
                    try simp only [Act.put, List.setIfInBounds_toArray, List.set_cons_zero, List.set_cons_succ]
                    refine K_at (i := 1) (oi := _) (v := ?_) rfl (by kernel_rfl) (by kernel_rfl) (by kernel_rfl) (by kernel_rfl) (fun _ _ _ h => h) (Or.inl ⟨by rfl, ?_⟩) (by assumption) ?_
                    rotate_left
                    · (intro w hSw; (try dsimp only at hSw); go_simp; try with_reducible rfl)
                    try simp only [Act.put, List.setIfInBounds_toArray, List.set_cons_zero, List.set_cons_succ]
                    refine K_at (i := 2) (oi := _) (v := ?_) rfl (by kernel_rfl) (by kernel_rfl) (by kernel_rfl) (by kernel_rfl) (fun _ _ _ h => h) (Or.inl ⟨by rfl, ?_⟩) (by assumption) ?_
                    rotate_left
                    · (intro w hSw; (try dsimp only at hSw); go_simp; try with_reducible rfl)
                    try simp only [Act.put, List.setIfInBounds_toArray, List.set_cons_zero, List.set_cons_succ]
                    refine K_at (i := 3) (oi := _) (v := ?_) rfl (by kernel_rfl) (by kernel_rfl) (by kernel_rfl) (by kernel_rfl) (fun _ _ _ h => h) (Or.inl ⟨by rfl, ?_⟩) (by assumption) ?_
                    rotate_left
                    · (intro w hSw; (try dsimp only at hSw); go_simp; try with_reducible rfl)
                    try simp only [Act.put, List.setIfInBounds_toArray, List.set_cons_zero, List.set_cons_succ]
                    refine K_at (i := 4) (oi := _) (v := ?_) rfl (by kernel_rfl) (by kernel_rfl) (by kernel_rfl) (by kernel_rfl) (fun _ _ _ h => h) (Or.inl ⟨by rfl, ?_⟩) (by assumption) ?_
                    rotate_left
                    · (intro w hSw; (try dsimp only at hSw); go_simp; try with_reducible rfl)
                    try simp only [Act.put, List.setIfInBounds_toArray, List.set_cons_zero, List.set_cons_succ]
                    refine K_at (i := 5) (oi := _) (v := ?_) rfl (by kernel_rfl) (by kernel_rfl) (by kernel_rfl) (by kernel_rfl) (fun _ _ _ h => h) (Or.inl ⟨by rfl, ?_⟩) (by assumption) ?_
                    rotate_left
                    · (intro w hSw; (try dsimp only at hSw); go_simp; try with_reducible rfl)
                    try simp only [Act.put, List.setIfInBounds_toArray, List.set_cons_zero, List.set_cons_succ]
                    refine K_only 6 (by kernel_rfl) rfl ?_
                    intro K hK
                    go_simp
                    have cJ := rjoin_any (bl, br) (.slice ai n ci) WI W0 (HWI.out W0 hB0) (by have := HWL.out; omega) (by have := HBZ.out; simp only; omega)
                    refine cJ.mono ?_
                    rintro e W1 ⟨r, rfl, hr, hb1⟩
                    go_simp
                    have hB1 := hB0.trans (hb1.mono hB0.size)
                    refine hK.out _ _ (fun _ => HAJ.out _ hB1) ?_
                    have hS1 := HAJ.out _ hB1
                    have hrb := hr.mono (b' := w.heap.size) (Nat.le_trans HI.out.bel.size hB0.size)
                    obtain ⟨ra, rc, er, _⟩ := hr.form
                    subst er
                    clear hK K cJ hS0 hr hb1 hB0
                    try simp only [Act.put, List.setIfInBounds_toArray, List.set_cons_zero, List.set_cons_succ]
                    refine K_only 7 (by kernel_rfl) rfl ?_
                    intro K hK
                    go_simp
                    have hB2 : Below wr.heap.size wr (W1.alloc (.cells #[.slice ra (joinT (bl, br) WI).length rc] 52)) := hB1.alloc hB1.size _
                    have hr2 := hrb.alloc (.cells #[.slice ra (joinT (bl, br) WI).length rc] 52)
                    have he2 : eltsAt slTE (W1.alloc (.cells #[.slice ra (joinT (bl, br) WI).length rc] 52)) (.slice (some ⟨W1.heap.size, 0, none⟩) 1 1) [(ra, (joinT (bl, br) WI).length, rc)] := one_elt slTE W1 _
                    refine hK.out _ _ (fun _ => HAJ.out _ hB2) ?_
                    obtain ⟨Nb, hNb⟩ : ∃ Nb, W1.heap.size = Nb := ⟨_, rfl⟩
                    rw [hNb] at he2 ⊢
                    clear hK K hS1 hB1 hrb hNb
                    generalize W1.alloc (.cells #[.slice ra (joinT (bl, br) WI).length rc] 52) = W2 at *
                    try simp only [Act.put, List.setIfInBounds_toArray, List.set_cons_zero, List.set_cons_succ]
                    have hi2 := HI.out.below hB2
                    obtain ⟨E, e1, e2, e3⟩ := hi2.next
                    refine K_only 8 (by kernel_rfl) rfl ?_
                    intro K hK
                    refine step_append_elts slTE rfl (.tmp 76) (.tmp 83) rfl w.heap.size _ (.slice (some ⟨Nb, 0, none⟩) 1 1) E [(ra, (joinT (bl, br) WI).length, rc)] rfl rfl e2 he2 (someNone _ _ _) (by have := HNX.out; rw [e1]; simp only [List.length_singleton]; omega) hi2.bel.size ?_
                    intro r3 W3 ho3 hg3 hl3
                    have hi3 := hi2.grown (e := (ra, (joinT (bl, br) WI).length, rc)) (W := joinT (bl, br) WI) e1 e2 e3 hr2 ho3 hg3 hl3 HNW.out
                    refine hK.out _ _ (fun h => by cases h) ?_
                    clear hK K e2 he2 ho3 hg3 hl3 e3 hr2 hi2 hB2
                    try simp only [Act.put, List.setIfInBounds_toArray, List.set_cons_zero, List.set_cons_succ]
                    refine K_pure (i := 9) (oi := _) (v := ?_) rfl rfl (by kernel_rfl) (fun _ _ _ h => h) (by kernel_rfl) (by kernel_rfl) (Or.inl ⟨by rfl, ?_⟩) ?_
                    rotate_left
                    · (intro w _; go_simp; try with_reducible rfl)
                    try simp only [Act.put, List.setIfInBounds_toArray, List.set_cons_zero, List.set_cons_succ]
                    have HI3 := Lib.hid hi3
                    clear hi3
                    refine K_done (by kernel_rfl) ?_ _
                    go_wp2
                    go_roundw
                    case measure => simp [intOf]; omega
                    case rel => exact ⟨i + 1, by simp, by rw [HN.out]; omega, HI3.out⟩
                  · have hikI : ¬ (i : Int) < (k : Int) := by omega
                    have HNXT : Hid (LnS L least w u11 r6 u15 (ms ++ [(bl, br)]) wr) := Lib.hid (by
                      have h1 := HI.out.next
                      rw [List.take_of_length_le (by rw [runT_len, startW_len, HN.out]; omega), ← runT_snoc] at h1
                      refine ⟨HI.out.out, h1, HI.out.counts, HI.out.bel, fun j hj => ?_⟩
                      by_cases e : j < ms.length
                      · obtain ⟨n, a1, a2⟩ := HST.out.each j e
                        refine ⟨n, ?_, a2⟩
                        rw [List.take_append_of_le_length (by omega), List.getElem_append_left e]
                        exact a1
                      · have e2 : j = ms.length := by simp at hj; omega
                        subst e2
                        refine ⟨nb, ?_, by omega⟩
                        rw [List.take_left', List.getElem_append_right (Nat.le_refl _)]
                        · simpa using HBR.out
                        · rfl)
                    go_wp2
                    go_roundg (budget - ((ms.length + 1 : Nat) : Int)).toNat
                    case measure => have := HGK.out; omega
                    case rel => exact ⟨ms ++ [(bl, br)], HNXT.out, by simp; omega, by simp⟩
            · have HSTOP : Hid ((ms.length : Int) = max budget 0) := Lib.hid (by have := HML.out; omega)
              go_wp2
              go_ret
              exact ⟨_, ms, rfl, HST.out.out, HST.out.bel, fun h => absurd h (by have := HD.out; have := HER.out; omega), fun _ _ => ⟨HST.out.each, HML.out, .inl HSTOP.out⟩⟩
  · go_wp2
    go_ret
    exact ⟨_, [], rfl, ownE.nil _ _, HB1.out, fun _ => rfl, fun h _ => absurd (HER.out.symm.trans h) he0⟩
end Go.Proofs.YtnmacalbbmeedaaGreat
/- The document's own Right, walked: are merges right? -/
namespace Go.Proofs.YtnmacalbbmeedaaGreat
open Go.RowKit

end Go.Proofs.YtnmacalbbmeedaaGreat
/- The laws of naive: what they ask of the program's Learn; the document's example; what is looked at. -/
namespace Go.Proofs.YtnmacalbbmeedaaGreat
open Go.RowKit

def FitsB (n : Int) : Prop := -9223372036854775808 ≤ n ∧ n ≤ 9223372036854775807
def tA : ByteArray := ⟨#[97]⟩
def tB : ByteArray := ⟨#[98]⟩
def tAB : ByteArray := ⟨#[97, 98]⟩
set_option maxRecDepth 100000 in
theorem ab_app : tA ++ tB = tAB := by
  apply bs_inj
  rw [bs_app]
  rfl
set_option maxRecDepth 100000 in
theorem ne_ab : tA ≠ tB := fun h => by
  have := congrArg bs h
  revert this
  decide
/-! Same of merges. -/
def NvToRel (n : Nat) (w : World) (i : Value) (wr : World) : Prop := ∃ k m : Nat, i = .int .i64 (k : Int) ∧ k ≤ n ∧ wr = w.drewN m
set_option maxRecDepth 100000 in
set_option maxHeartbeats 1000000 in
theorem nvsame_true (v x : Value) (L : List Mg) (w : World) (hv : eltsAt mergeE w v L) (hx : eltsAt mergeE w x L) (hL : L.length ≤ 9223372036854775807) :
    Calls Tryz.prog 11 #[v, x] w fun e w' => e = .returned (.bool true) ∧ Below w.heap.size w w' := by
  have HV := Lib.hid hv
  have HX := Lib.hid hx
  obtain ⟨a, cap, rfl, hc⟩ := hv
  obtain ⟨b, cap2, rfl, hd⟩ := hx
  have HC := Lib.hid hc
  have HD := Lib.hid hd
  clear hc hd
  go_enter Tryz.func11, Tryz.ntmps11
  go_wp2
  go_loopw [5] (fun i wr => NvToRel L.length w i wr) (fun i _ => L.length + 1 - (intOf i).toNat)
  case atStart => exact ⟨0, 0, rfl, by omega, rfl⟩
  case round =>
    obtain ⟨k, m, rfl, hk, hw⟩ := hrel
    have HW := Lib.hid hw
    have HB : Hid (Below w.heap.size w wr) := Lib.hid (by rw [hw]; exact below_drewN' (Below.refl _ _) _)
    clear hw
    by_cases hgo : k < L.length
    · have hkI : (k : Int) < (L.length : Int) := by omega
      obtain ⟨ad, rfl, _⟩ := HC.out k hgo
      obtain ⟨ae, rfl, _⟩ := HD.out k hgo
      obtain ⟨c0, c1⟩ := merges_at HV.out HB.out hgo
      obtain ⟨d0, d1⟩ := merges_at HX.out HB.out hgo
      go_wp2
      go_quiet (fail)
      go_wp2
      go_roundw
      case rel => exact ⟨k + 1, m + nq, by simp, hgo, by rw [HW.out]; simp⟩
      case measure => simp [intOf]; omega
    · have hkI : ¬ (k : Int) < (L.length : Int) := by omega
      go_wp2
      go_ret
      exact ⟨rfl, HB.out⟩
/-! What is looked at. -/
set_option maxRecDepth 100000 in
theorem nv_bytes_few {L : Bag} (h : ∀ p ∈ L, p.1.size ≤ 100) : bytesOf L ≤ 100 * L.length := by
  induction L with
  | nil => simp [bytesOf]
  | cons p r ih =>
    have e : bytesOf (p :: r) = p.1.size + bytesOf r := by simp [bytesOf]
    have := h p List.mem_cons_self
    have := ih fun q hq => h q (List.mem_cons_of_mem _ hq)
    rw [e, List.length_cons]
    omega
end Go.Proofs.YtnmacalbbmeedaaGreat
