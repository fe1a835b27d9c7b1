/- A sequence: made, its length, its symbols. -/
import Derived.Test.YtejcemmhhpbchaaGreatRis
import Derived.Test.YtejcemmhhpbchaaGreatIntE
namespace Go.Proofs.YtejcemmhhpbchaaGreat
open Go.RowKit Go.Maps

def syms (s : ByteArray) : List Int := (bs s).map fun b => (b.toNat : Int)
def FitsX (X : List Int) : Prop := ∀ x ∈ X, -9223372036854775808 ≤ x ∧ x ≤ 9223372036854775807
set_option maxRecDepth 100000 in
theorem syms_len (s : ByteArray) : (syms s).length = s.size := by
  obtain ⟨⟨l⟩⟩ := s; simp [syms, bs, ByteArray.size]
set_option maxRecDepth 100000 in
theorem syms_range {s : ByteArray} {x : Int} (hx : x ∈ syms s) : 0 ≤ x ∧ x < 256 := by
  obtain ⟨b, _, rfl⟩ := List.mem_map.1 hx
  have := b.toNat_lt
  omega
set_option maxRecDepth 100000 in
theorem rowI_cell {w : World} {g j : Nat} {L : List Int} (h : rowE intE w g L) (hj : j < L.length) : w.cell? ⟨g, j, none⟩ = some (.int .i64 L[j]) ∧ w.frozen? ⟨g, j, none⟩ = false := by
  have := h.cells (i := 0) hj (by decide)
  rwa [show j * intE.n + 0 = j by show j * 1 + 0 = j; omega] at this
set_option maxRecDepth 100000 in
theorem rowI_store {w : World} {g j : Nat} {L : List Int} (h : rowE intE w g L) (hj : j < L.length) (y : Int) : rowE intE (w.setCell ⟨g, j, none⟩ (.int .i64 y)) g (L.set j y) := by
  have := h.store (i := 0) (u := .int .i64 y) y hj (by decide) rfl
  rwa [show j * intE.n + 0 = j by show j * 1 + 0 = j; omega] at this
set_option maxRecDepth 100000 in
theorem iown_none (w : World) : ownE intE (w.alloc (.cells #[] 3)) w.heap.size (.slice (some ⟨w.heap.size, 0, none⟩) 0 0) [] :=
  ⟨rfl, .inr ⟨w.heap.size, 0, #[], rfl, Nat.le_refl _, heap_alloc_new w _, Nat.le_refl _, by unfold maxLen; omega, rfl, rfl⟩⟩
/-- Block K is a sequence, its row in block g: the symbols X, and room Y behind them. -/
structure SeqO (w : World) (K g : Nat) (X Y : List Int) : Prop where
  box : w.heap[K]? = some (.cells #[.slice (some ⟨g, 0, none⟩) X.length (X.length + Y.length)] 97 (0, 0))
  row : rowE intE w g (X ++ Y)
  fits : FitsX X
  few : X.length + Y.length ≤ 1000
set_option maxRecDepth 100000 in
theorem SeqO.kept {w w' : World} {K g : Nat} {X Y : List Int} (h : SeqO w K g X Y) (hK : w'.heap[K]? = w.heap[K]?) (hg : w'.heap[g]? = w.heap[g]?) : SeqO w' K g X Y := ⟨hK.trans h.box, h.row.kept hg, h.fits, h.few⟩
set_option maxRecDepth 100000 in
theorem SeqO.ltK {w : World} {K g : Nat} {X Y : List Int} (h : SeqO w K g X Y) : K < w.heap.size := (Array.getElem?_eq_some_iff.1 h.box).1
set_option maxRecDepth 100000 in
theorem SeqO.ltg {w : World} {K g : Nat} {X Y : List Int} (h : SeqO w K g X Y) : g < w.heap.size := h.row.lt
set_option maxRecDepth 100000 in
theorem SeqO.below {w w' : World} {K g : Nat} {X Y : List Int} (h : SeqO w K g X Y) (hb : Below w.heap.size w w') : SeqO w' K g X Y := h.kept (hb.block K h.ltK) (hb.block g h.ltg)
set_option maxRecDepth 100000 in
theorem SeqO.apart {w : World} {K g : Nat} {X Y : List Int} (h : SeqO w K g X Y) : K ≠ g := by
  intro e
  obtain ⟨cs, h1, _⟩ := h.row
  have h2 := h.box
  rw [e, h1] at h2
  have := congrArg (fun o => match o with | some (Obj.cells _ t _) => t | _ => 0) h2
  simp [intE] at this
set_option maxRecDepth 100000 in
theorem SeqO.cell {w : World} {K g : Nat} {X Y : List Int} (h : SeqO w K g X Y) : w.cell? ⟨K, 0, none⟩ = some (.slice (some ⟨g, 0, none⟩) X.length (X.length + Y.length)) := by
  rw [cell_of_row w K 0 _ 97 (0, 0) h.box]; rfl
set_option maxRecDepth 100000 in
theorem SeqO.frozen {w : World} {K g : Nat} {X Y : List Int} (h : SeqO w K g X Y) : w.frozen? ⟨K, 0, none⟩ = false := Lib.frozen_of_heap h.box _
set_option maxRecDepth 100000 in
theorem SeqO.at {w : World} {K g : Nat} {X Y : List Int} (h : SeqO w K g X Y) {j : Nat} (hj : j < X.length) : w.cell? ⟨g, j, none⟩ = some (.int .i64 X[j]) := by
  have := (rowI_cell h.row (j := j) (by simp; omega)).1
  rwa [List.getElem_append_left hj] at this
set_option maxRecDepth 100000 in
theorem SeqO.reads {w : World} {K g : Nat} {X Y : List Int} (h : SeqO w K g X Y) : eltsAt intE w (.slice (some ⟨g, 0, none⟩) X.length (X.length + Y.length)) X := by
  refine ⟨_, _, rfl, fun j hj => ⟨_, rfl, h.ltg, fun i u hu => ?_⟩⟩
  match i, hu with
  | 0, hu =>
    cases hu
    rw [add_zero_off]
    rw [show j * intE.n + 0 = j by show j * 1 + 0 = j; omega]
    exact h.at hj
set_option maxRecDepth 100000 in
theorem SeqO.fewX {w : World} {K g : Nat} {X Y : List Int} (h : SeqO w K g X Y) : X.length ≤ 1000 := by have := h.few; omega
set_option maxRecDepth 100000 in
theorem pfilled_step {X : List Int} {n k : Nat} (hn : X.length = n) (hk : k < n) : (X.take k ++ List.replicate (n - k) 0).set k X[k] = X.take (k + 1) ++ List.replicate (n - (k + 1)) 0 := by
  have hl : (X.take k).length = k := by simp; omega
  rw [List.set_append_right _ _ (by omega), hl, Nat.sub_self, ptake_snoc (by omega), show n - k = n - (k + 1) + 1 by omega, List.replicate_succ, List.set_cons_zero, List.append_assoc]
  rfl
def SNewRel (s : ByteArray) (w : World) (i : Value) (wr : World) : Prop :=
  ∃ k : Nat, i = .int .i64 (k : Int) ∧ k ≤ s.size ∧ rowE intE wr w.heap.size ((syms s).take k ++ List.replicate (s.size - k) 0) ∧ Below w.heap.size w wr
set_option maxRecDepth 100000 in
theorem new_step {s : ByteArray} {w wr : World} {k : Nat} (hk : k < s.size) (h : rowE intE wr w.heap.size ((syms s).take k ++ List.replicate (s.size - k) 0)) (hb : Below w.heap.size w wr) {z : Int} (hz : z = (syms s)[k]'(by rw [syms_len]; exact hk)) :
    SNewRel s w (.int .i64 ((k : Int) + 1)) (wr.setCell ⟨w.heap.size, k, none⟩ (.int .i64 z)) := by
  subst hz
  refine ⟨k + 1, by simp, hk, ?_, hb.setCell (Nat.le_refl _) _⟩
  rw [← pfilled_step (syms_len s) hk]
  exact rowI_store h (by simp [syms_len]; omega) _
set_option maxRecDepth 100000 in
theorem wrap64_small {z : Int} (h0 : 0 ≤ z) (h1 : z < 256) : wrap64 z = z := by
  first | exact IntWalk.i64_in z (by omega) | (unfold wrap64; omega)
set_option maxRecDepth 100000 in
set_option maxHeartbeats 2000000 in
theorem qnew_any (s : ByteArray) (w : World) (hs : s.size ≤ 1000) : Calls Tryz.prog 45 #[.string s] w fun e w' => ∃ K, e = .returned (.pointer (some ⟨K, 0, none⟩)) ∧ SeqO w' K w.heap.size (syms s) [] ∧ w.heap.size ≤ K ∧ Below w.heap.size w w' := by
  obtain ⟨i0, hi, hz0, hz1, hz2⟩ := info_parts intE.info
  have hz2' : i0.bytes = 8 := hz2
  go_enter Tryz.func45, Tryz.ntmps45
  go_wp2_with (at_make; refine wpList_make_full _ rfl _ _ 43 rfl w.heap.size 3 i0 intE.zero 1 Tryz.underlying43 hi hz0 hz1 .i64 .i64 _ _ s.size rfl rfl rfl rfl (by rw [hz2']; omega) (by unfold maxLen; omega) (Nat.le_refl _) ?_; intro w1 hown1 hgr1; have HR1 : Hid (rowE intE w1 w.heap.size (List.replicate s.size 0)) := Lib.hid (rowE_made intE 0 rfl hown1); have HB1 : Hid (Below w.heap.size w w1) := Lib.hid ((Below.refl _ w).grown hgr1 (Nat.le_refl _) (by simp)); clear hown1 hgr1)
  go_loopw [10] (fun i wr => SNewRel s w i wr) (fun i _ => s.size - (intOf i).toNat)
  case atStart => exact ⟨0, rfl, Nat.zero_le _, by simpa using HR1.out, HB1.out⟩
  case round =>
    obtain ⟨k, rfl, hk, hrow, hbel⟩ := hrel
    have HR := Lib.hid hrow; have HB := Lib.hid hbel
    clear hbel hi hz0 hz1 hz2 hz2' HR1 HB1
    by_cases hgo : k < s.size
    · obtain ⟨c0, f0⟩ := rowI_cell (j := k) hrow (by simp [syms_len]; omega)
      clear hrow
      have hb0 : wrap64 (s[k].toNat : Int) = (syms s)[k]'(by rw [syms_len]; exact hgo) := by
        rw [wrap64_small (by omega) (by have := s[k].toNat_lt; omega)]
        simp [syms, bs]
        rfl
      go_wp2
      go_roundw
      case measure => simp [intOf]; omega
      case rel => exact new_step hgo HR.out HB.out rfl
    · obtain rfl : k = s.size := by omega
      have HR' : Hid (rowE intE wr w.heap.size (syms s ++ [])) := Lib.hid (by have := HR.out; rw [List.take_of_length_le (by rw [syms_len]; exact Nat.le_refl _)] at this; simpa using this)
      clear hrow HR
      go_wp2
      go_ret
      refine ⟨wr.heap.size, rfl, ⟨?_, HR'.out.kept (Below.heap_alloc _ _ _ HR'.out.lt), fun x hx => by have := syms_range hx; omega, by simp [syms_len]; exact hs⟩, HB.out.size, HB.out.alloc HB.out.size _⟩
      rw [heap_alloc_new]; simp [syms_len]
set_option maxRecDepth 100000 in
theorem slice_nil (ad : Addr) (n c : Nat) (w : World) : (binOp .eql 43 (.slice (some ad) n c) (.slice none 0 0)).run Tryz.prog w = .ok (.bool false) w := by
  first
  | rfl
  | simp [binOp, run_underlying Tryz.underlying43]
set_option maxRecDepth 100000 in
theorem clone_any (v : Value) (X : List Int) (w : World) (ad : Addr) (n c : Nat) (hv : v = .slice (some ad) n c) (h : eltsAt intE w v X) (hl : X.length ≤ 1000) : Calls Tryz.prog 42 #[v] w fun e w' => ∃ r, e = .returned r ∧ ownE intE w' w.heap.size r X ∧ Below w.heap.size w w' := by
  have HA : Hid (ownE intE (w.alloc (.cells #[] 3)) w.heap.size (.slice (some ⟨w.heap.size, 0, none⟩) 0 0) []) := Lib.hid (iown_none w)
  have HB : Hid (Below w.heap.size w (w.alloc (.cells #[] 3))) := Lib.hid ((Below.refl _ w).alloc (Nat.le_refl _) _)
  have HE : Hid (eltsAt intE (w.alloc (.cells #[] 3)) v X) := Lib.hid (h.below HB.out (Nat.le_refl _))
  subst hv
  have hsn := slice_nil ad n c w
  clear h
  go_enter Tryz.func42, Tryz.ntmps42
  go_wp2_with (at_builtin; refine wpList_append_elts intE rfl (.tmp 5) (.tmp 6) rfl w.heap.size _ _ [] X rfl rfl HA.out HE.out (someNone _ _ _) (by simp; omega) HB.out.size ?_; intro r5 w5 hown5 hg5 _; have HO5 := Lib.hid hown5; have HG5 := Lib.hid hg5; clear hown5 hg5)
  go_ret
  exact ⟨_, rfl, HO5.out, HB.out.grown HG5.out HB.out.size fun g e => (HA.out.lt g e).1⟩
set_option maxRecDepth 100000 in
theorem symbols_any (K g : Nat) (X Y : List Int) (w : World) (h : SeqO w K g X Y) : Calls Tryz.prog 40 #[.pointer (some ⟨K, 0, none⟩)] w fun e w' => ∃ r, e = .returned r ∧ ownE intE w' w.heap.size r X ∧ Below w.heap.size w w' := by
  have c0 := h.cell
  have cC := clone_any _ X w _ _ _ rfl h.reads h.fewX
  clear h
  go_enter Tryz.func40, Tryz.ntmps40
  go_wp2_with fail
  refine cC.mono ?_
  rintro e w1 ⟨r, rfl, ho, hb⟩
  have HO := Lib.hid ho; have HB := Lib.hid hb
  clear ho hb
  go_wp2
  go_ret
  exact ⟨_, rfl, HO.out, HB.out⟩
set_option maxRecDepth 100000 in
theorem symbols_nil (w : World) : Calls Tryz.prog 40 #[.pointer none] w fun e w' => e = .returned (.slice none 0 0) ∧ w' = w := by
  go_enter Tryz.func40, Tryz.ntmps40
  go_wp2
  go_ret
  exact ⟨rfl, rfl⟩
set_option maxRecDepth 100000 in
theorem Kept.undrew {S : Nat → Prop} {u u' : World} (h : Kept S u.drew u') : Kept S u u' := ⟨h.os, h.tape, h.output, h.size, h.block⟩
def PairsRel (w : World) (X : List Int) (b : Nat) (i : Value) (wr : World) : Prop :=
  ∃ k : Nat, i = .int .i64 (k : Int) ∧ 1 ≤ k ∧ (k ≤ X.length ∨ k = 1) ∧ PMap wr b (k - 1) (cntP (X.take k)) ∧ Below w.heap.size w wr
set_option maxRecDepth 100000 in
theorem pairs_step {w wr w5 : World} {X : List Int} {b k : Nat} (hb : w.heap.size ≤ b) (h1 : 1 ≤ k) (hk : k < X.length) (hbel : Below w.heap.size w wr) (hm : PMap w5 b (k - 1 + 1) (addP (cntP (X.take k)) (X[k - 1], X[k]) 1)) (hkp : Kept (fun j => j = b) wr w5) : PairsRel w X b (.int .i64 ((k : Int) + 1)) w5 := by
  refine ⟨k + 1, by simp, by omega, .inl (by omega), ?_, Below.kept hbel hkp (fun i e => by subst e; exact hb) hbel.size⟩
  have e : addP (cntP (X.take k)) (X[k - 1], X[k]) 1 = cntP (X.take (k + 1)) := by
    funext q
    rw [addP_eq, cnt_take (by omega) hk]
  rw [e] at hm
  rwa [show k + 1 - 1 = k - 1 + 1 by omega]
set_option maxRecDepth 100000 in
set_option maxHeartbeats 2000000 in
theorem pairs_any (K g : Nat) (X Y : List Int) (w : World) (h : SeqO w K g X Y) :
    Calls Tryz.prog 46 #[.pointer (some ⟨K, 0, none⟩)] w fun e w' => ∃ v L, e = .returned v ∧ ownE chgE w' w.heap.size v L ∧ ChangesOf (cntP X) L ∧ L.length ≤ X.length ∧ Below w.heap.size w w' := by
  have H := Lib.hid h
  have hf := h.fewX
  clear h
  have HM : Hid (PMap (w.alloc (.map #[] 0)) w.heap.size 0 (cntP (X.take 1))) := Lib.hid (by rw [show cntP (X.take 1) = fun _ => 0 from funext fun q => cnt_take_one X q]; exact pmap_made w)
  have HB0 : Hid (Below w.heap.size w (w.alloc (.map #[] 0))) := Lib.hid ((Below.refl _ w).alloc (Nat.le_refl _) _)
  have hmm := @run_makeMap Tryz.prog
  go_enter Tryz.func46, Tryz.ntmps46
  go_wp2
  clear hmm
  go_loopw [4] (fun i wr => PairsRel w X w.heap.size i wr) (fun i _ => X.length - (intOf i).toNat)
  case atStart => exact ⟨1, rfl, by omega, .inr rfl, HM.out, HB0.out⟩
  case round =>
    obtain ⟨k, rfl, h1, hk, hm, hbel⟩ := hrel
    have HMR := Lib.hid hm; have HB := Lib.hid hbel
    clear hm hbel HM HB0
    have HS := Lib.hid (H.out.below HB.out)
    have c0 := HS.out.cell
    by_cases hgo : k < X.length
    · obtain ⟨j, rfl⟩ : ∃ j, k = j + 1 := ⟨k - 1, by omega⟩
      have cA := HS.out.at (j := j) (by omega)
      have cB := HS.out.at (j := j + 1) (by omega)
      have hs1 : IntKind.i64.wrap ((j : Int) + 1 - 1) = (j : Int) := by rw [IntWalk.i64_in _ (by omega)]; omega
      have hs2 : IntKind.i64.wrap (j : Int) = (j : Int) := IntWalk.i64_in _ (by omega)
      have i0 : (0 : Int) ≤ (j : Int) := by omega
      have i1 : (j : Int) < (X.length : Int) := by omega
      have i2 : (0 : Int) ≤ (j : Int) + 1 := by omega
      have i3 : (j : Int) + 1 < (X.length : Int) := by omega
      have i4 : ((j : Int) + 1).toNat = j + 1 := by omega
      have fA := H.out.fits X[j] (List.getElem_mem _)
      have fB := H.out.fits X[j + 1] (List.getElem_mem _)
      have cAdd := padd_any w.heap.size (j + 1 - 1) (cntP (X.take (j + 1))) X[j] X[j + 1] 1 wr.drew HMR.out ⟨fA, fB⟩ (by omega) (by omega)
      have HLT : Hid (K < w.heap.size ∧ g < w.heap.size) := Lib.hid ⟨H.out.ltK, H.out.ltg⟩
      have HSZ : Hid (w.heap.size ≤ wr.heap.size) := Lib.hid HB.out.size
      go_wp2_with fail
      go_region_held3 (fun w' => w'.cell? ⟨K, 0, none⟩ = some (.slice (some ⟨g, 0, none⟩) X.length (X.length + Y.length)) ∧ w'.cell? ⟨g, j, none⟩ = some (.int .i64 X[j]) ∧ w'.cell? ⟨g, j + 1, none⟩ = some (.int .i64 X[j + 1])) (first | exact ⟨c0, cA, cB⟩ | exact ⟨d0, dA, dB⟩) (first | (go_at_call 50; refine cAdd.mono ?_; rintro e w5 ⟨rfl, hm5, hk5⟩; have HM5 := Lib.hid hm5; have HK5 := Lib.hid hk5; clear hm5 hk5; have d0 : w5.cell? ⟨K, 0, none⟩ = some (.slice (some ⟨g, 0, none⟩) X.length (X.length + Y.length)) := (World.cell?_of_block (HK5.out.block K (by have := HLT.out; have := HSZ.out; show K < wr.heap.size; omega) (by have := HLT.out; omega))).trans c0; have dA : w5.cell? ⟨g, j, none⟩ = some (.int .i64 X[j]) := (World.cell?_of_block (HK5.out.block g (by have := HLT.out; have := HSZ.out; show g < wr.heap.size; omega) (by have := HLT.out; omega))).trans cA; have dB : w5.cell? ⟨g, j + 1, none⟩ = some (.int .i64 X[j + 1]) := (World.cell?_of_block (HK5.out.block g (by have := HLT.out; have := HSZ.out; show g < wr.heap.size; omega) (by have := HLT.out; omega))).trans cB))
      all_goals go_wp2
      all_goals go_roundw
      case rel => exact pairs_step (k := j + 1) (Nat.le_refl _) (by omega) hgo HB.out HM5.out (Kept.undrew HK5.out)
      case measure => simp [intOf]; omega
    · have HX : Hid (X.take k = X) := Lib.hid (List.take_of_length_le (by omega))
      have hN : k - 1 ≤ X.length := by omega
      have cR := rising_any w.heap.size (k - 1) (cntP (X.take k)) wr HMR.out (by omega)
      go_wp2_with fail
      refine cR.mono ?_
      rintro e w5 ⟨v, L, rfl, ho, hc, hl, hb5⟩
      have HO := Lib.hid (ho.mono HB.out.size); have HC := Lib.hid hc; have HL := Lib.hid hl; have HB5 := Lib.hid hb5
      clear ho hc hl hb5
      go_wp2
      go_ret
      exact ⟨_, L, rfl, HO.out, by have := HC.out; rwa [HX.out] at this, by have := HL.out; omega, HB.out.trans (HB5.out.mono HB.out.size)⟩
set_option maxRecDepth 100000 in
theorem pairs_nil (w : World) : Calls Tryz.prog 46 #[.pointer none] w fun e w' => e = .returned (.slice none 0 0) ∧ w' = w := by
  go_enter Tryz.func46, Tryz.ntmps46
  go_wp2
  go_ret
  exact ⟨rfl, rfl⟩
end Go.Proofs.YtejcemmhhpbchaaGreat
