/- Texts in one: Obj, VMap, Cn. -/
import Derived.Test.YtnmacalbbmeedaaGreatQ12
import Derived.Test.YtnmacalbbmeedaaGreatQ04
import Derived.Test.YtnmacalbbmeedaaGreatQ11
import Derived.Test.YtnmacalbbmeedaaGreatQ01
/- A sequence: made, its length, its symbols. -/
namespace Go.Proofs.YtnmacalbbmeedaaGreat
open Go.RowKit Go.Maps

def syms (s : ByteArray) : List Int := (bs s).map fun b => (b.toNat : Int)
def FitsX (X : List Int) : Prop := ∀ x ∈ X, -9223372036854775808 ≤ x ∧ x ≤ 9223372036854775807
set_option maxRecDepth 100000 in
theorem syms_len (s : ByteArray) : (syms s).length = s.size := by
  obtain ⟨⟨l⟩⟩ := s; simp [syms, bs, ByteArray.size]
set_option maxRecDepth 100000 in
theorem syms_range {s : ByteArray} {x : Int} (hx : x ∈ syms s) : 0 ≤ x ∧ x < 256 := by
  obtain ⟨b, _, rfl⟩ := List.mem_map.1 hx
  have := b.toNat_lt
  omega
set_option maxRecDepth 100000 in
theorem rowI_cell {w : World} {g j : Nat} {L : List Int} (h : rowE intE w g L) (hj : j < L.length) : w.cell? ⟨g, j, none⟩ = some (.int .i64 L[j]) ∧ w.frozen? ⟨g, j, none⟩ = false := by
  have := h.cells (i := 0) hj (by decide)
  rwa [show j * intE.n + 0 = j by show j * 1 + 0 = j; omega] at this
set_option maxRecDepth 100000 in
theorem rowI_store {w : World} {g j : Nat} {L : List Int} (h : rowE intE w g L) (hj : j < L.length) (y : Int) : rowE intE (w.setCell ⟨g, j, none⟩ (.int .i64 y)) g (L.set j y) := by
  have := h.store (i := 0) (u := .int .i64 y) y hj (by decide) rfl
  rwa [show j * intE.n + 0 = j by show j * 1 + 0 = j; omega] at this
set_option maxRecDepth 100000 in
theorem iown_none (w : World) : ownE intE (w.alloc (.cells #[] 3)) w.heap.size (.slice (some ⟨w.heap.size, 0, none⟩) 0 0) [] :=
  ⟨rfl, .inr ⟨w.heap.size, 0, #[], rfl, Nat.le_refl _, heap_alloc_new w _, Nat.le_refl _, by unfold maxLen; omega, rfl, rfl⟩⟩
/-- Block K is a sequence, its row in block g: the symbols X, and room Y behind them. -/
structure SeqO (w : World) (K g : Nat) (X Y : List Int) : Prop where
  box : w.heap[K]? = some (.cells #[.slice (some ⟨g, 0, none⟩) X.length (X.length + Y.length)] 161 (0, 0))
  row : rowE intE w g (X ++ Y)
  fits : FitsX X
  few : X.length + Y.length ≤ 1000
set_option maxRecDepth 100000 in
theorem SeqO.kept {w w' : World} {K g : Nat} {X Y : List Int} (h : SeqO w K g X Y) (hK : w'.heap[K]? = w.heap[K]?) (hg : w'.heap[g]? = w.heap[g]?) : SeqO w' K g X Y := ⟨hK.trans h.box, h.row.kept hg, h.fits, h.few⟩
set_option maxRecDepth 100000 in
theorem SeqO.ltK {w : World} {K g : Nat} {X Y : List Int} (h : SeqO w K g X Y) : K < w.heap.size := (Array.getElem?_eq_some_iff.1 h.box).1
set_option maxRecDepth 100000 in
theorem SeqO.ltg {w : World} {K g : Nat} {X Y : List Int} (h : SeqO w K g X Y) : g < w.heap.size := h.row.lt
set_option maxRecDepth 100000 in
theorem SeqO.below {w w' : World} {K g : Nat} {X Y : List Int} (h : SeqO w K g X Y) (hb : Below w.heap.size w w') : SeqO w' K g X Y := h.kept (hb.block K h.ltK) (hb.block g h.ltg)
set_option maxRecDepth 100000 in
theorem SeqO.apart {w : World} {K g : Nat} {X Y : List Int} (h : SeqO w K g X Y) : K ≠ g := by
  intro e
  obtain ⟨cs, h1, _⟩ := h.row
  have h2 := h.box
  rw [e, h1] at h2
  have := congrArg (fun o => match o with | some (Obj.cells _ t _) => t | _ => 0) h2
  simp [intE] at this
set_option maxRecDepth 100000 in
theorem SeqO.cell {w : World} {K g : Nat} {X Y : List Int} (h : SeqO w K g X Y) : w.cell? ⟨K, 0, none⟩ = some (.slice (some ⟨g, 0, none⟩) X.length (X.length + Y.length)) := by
  rw [cell_of_row w K 0 _ 161 (0, 0) h.box]; rfl
set_option maxRecDepth 100000 in
theorem SeqO.frozen {w : World} {K g : Nat} {X Y : List Int} (h : SeqO w K g X Y) : w.frozen? ⟨K, 0, none⟩ = false := Lib.frozen_of_heap h.box _
set_option maxRecDepth 100000 in
theorem SeqO.at {w : World} {K g : Nat} {X Y : List Int} (h : SeqO w K g X Y) {j : Nat} (hj : j < X.length) : w.cell? ⟨g, j, none⟩ = some (.int .i64 X[j]) := by
  have := (rowI_cell h.row (j := j) (by simp; omega)).1
  rwa [List.getElem_append_left hj] at this
set_option maxRecDepth 100000 in
theorem SeqO.reads {w : World} {K g : Nat} {X Y : List Int} (h : SeqO w K g X Y) : eltsAt intE w (.slice (some ⟨g, 0, none⟩) X.length (X.length + Y.length)) X := by
  refine ⟨_, _, rfl, fun j hj => ⟨_, rfl, h.ltg, fun i u hu => ?_⟩⟩
  match i, hu with
  | 0, hu =>
    cases hu
    rw [add_zero_off]
    rw [show j * intE.n + 0 = j by show j * 1 + 0 = j; omega]
    exact h.at hj
set_option maxRecDepth 100000 in
theorem SeqO.fewX {w : World} {K g : Nat} {X Y : List Int} (h : SeqO w K g X Y) : X.length ≤ 1000 := by have := h.few; omega
set_option maxRecDepth 100000 in
theorem pfilled_step {X : List Int} {n k : Nat} (hn : X.length = n) (hk : k < n) : (X.take k ++ List.replicate (n - k) 0).set k X[k] = X.take (k + 1) ++ List.replicate (n - (k + 1)) 0 := by
  have hl : (X.take k).length = k := by simp; omega
  rw [List.set_append_right _ _ (by omega), hl, Nat.sub_self, ptake_snoc (by omega), show n - k = n - (k + 1) + 1 by omega, List.replicate_succ, List.set_cons_zero, List.append_assoc]
  rfl
def SNewRel (s : ByteArray) (w : World) (i : Value) (wr : World) : Prop :=
  ∃ k : Nat, i = .int .i64 (k : Int) ∧ k ≤ s.size ∧ rowE intE wr w.heap.size ((syms s).take k ++ List.replicate (s.size - k) 0) ∧ Below w.heap.size w wr
set_option maxRecDepth 100000 in
theorem new_step {s : ByteArray} {w wr : World} {k : Nat} (hk : k < s.size) (h : rowE intE wr w.heap.size ((syms s).take k ++ List.replicate (s.size - k) 0)) (hb : Below w.heap.size w wr) {z : Int} (hz : z = (syms s)[k]'(by rw [syms_len]; exact hk)) :
    SNewRel s w (.int .i64 ((k : Int) + 1)) (wr.setCell ⟨w.heap.size, k, none⟩ (.int .i64 z)) := by
  subst hz
  refine ⟨k + 1, by simp, hk, ?_, hb.setCell (Nat.le_refl _) _⟩
  rw [← pfilled_step (syms_len s) hk]
  exact rowI_store h (by simp [syms_len]; omega) _
set_option maxRecDepth 100000 in
theorem wrap64_small {z : Int} (h0 : 0 ≤ z) (h1 : z < 256) : wrap64 z = z := by
  first | exact IntWalk.i64_in z (by omega) | (unfold wrap64; omega)
set_option maxRecDepth 100000 in
set_option maxHeartbeats 2000000 in
theorem qnew_any (s : ByteArray) (w : World) (hs : s.size ≤ 1000) : Calls Tryz.prog 65 #[.string s] w fun e w' => ∃ K, e = .returned (.pointer (some ⟨K, 0, none⟩)) ∧ SeqO w' K w.heap.size (syms s) [] ∧ w.heap.size ≤ K ∧ Below w.heap.size w w' := by
  obtain ⟨i0, hi, hz0, hz1, hz2⟩ := info_parts intE.info
  have hz2' : i0.bytes = 8 := hz2
  go_enter Tryz.func65, Tryz.ntmps65
  go_wp2_with (at_make; refine wpList_make_full _ rfl _ _ 87 rfl w.heap.size 3 i0 intE.zero 1 Tryz.underlying87 hi hz0 hz1 .i64 .i64 _ _ s.size rfl rfl rfl rfl (by rw [hz2']; omega) (by unfold maxLen; omega) (Nat.le_refl _) ?_; intro w1 hown1 hgr1; have HR1 : Hid (rowE intE w1 w.heap.size (List.replicate s.size 0)) := Lib.hid (rowE_made intE 0 rfl hown1); have HB1 : Hid (Below w.heap.size w w1) := Lib.hid ((Below.refl _ w).grown hgr1 (Nat.le_refl _) (by simp)); clear hown1 hgr1)
  go_loopw [10] (fun i wr => SNewRel s w i wr) (fun i _ => s.size - (intOf i).toNat)
  case atStart => exact ⟨0, rfl, Nat.zero_le _, by simpa using HR1.out, HB1.out⟩
  case round =>
    obtain ⟨k, rfl, hk, hrow, hbel⟩ := hrel
    have HR := Lib.hid hrow; have HB := Lib.hid hbel
    clear hbel hi hz0 hz1 hz2 hz2' HR1 HB1
    by_cases hgo : k < s.size
    · obtain ⟨c0, f0⟩ := rowI_cell (j := k) hrow (by simp [syms_len]; omega)
      clear hrow
      have hb0 : wrap64 (s[k].toNat : Int) = (syms s)[k]'(by rw [syms_len]; exact hgo) := by
        rw [wrap64_small (by omega) (by have := s[k].toNat_lt; omega)]
        simp [syms, bs]
        rfl
      go_wp2
      go_roundw
      case measure => simp [intOf]; omega
      case rel => exact new_step hgo HR.out HB.out rfl
    · obtain rfl : k = s.size := by omega
      have HR' : Hid (rowE intE wr w.heap.size (syms s ++ [])) := Lib.hid (by have := HR.out; rw [List.take_of_length_le (by rw [syms_len]; exact Nat.le_refl _)] at this; simpa using this)
      clear hrow HR
      go_wp2
      go_ret
      refine ⟨wr.heap.size, rfl, ⟨?_, HR'.out.kept (Below.heap_alloc _ _ _ HR'.out.lt), fun x hx => by have := syms_range hx; omega, by simp [syms_len]; exact hs⟩, HB.out.size, HB.out.alloc HB.out.size _⟩
      rw [heap_alloc_new]; simp [syms_len]
set_option maxRecDepth 100000 in
theorem slice_nil (ad : Addr) (n c : Nat) (w : World) : (binOp .eql 87 (.slice (some ad) n c) (.slice none 0 0)).run Tryz.prog w = .ok (.bool false) w := by
  first
  | rfl
  | simp [binOp, run_underlying Tryz.underlying87]
set_option maxRecDepth 100000 in
theorem clone_any (v : Value) (X : List Int) (w : World) (ad : Addr) (n c : Nat) (hv : v = .slice (some ad) n c) (h : eltsAt intE w v X) (hl : X.length ≤ 1000) : Calls Tryz.prog 84 #[v] w fun e w' => ∃ r, e = .returned r ∧ ownE intE w' w.heap.size r X ∧ Below w.heap.size w w' := by
  have HA : Hid (ownE intE (w.alloc (.cells #[] 3)) w.heap.size (.slice (some ⟨w.heap.size, 0, none⟩) 0 0) []) := Lib.hid (iown_none w)
  have HB : Hid (Below w.heap.size w (w.alloc (.cells #[] 3))) := Lib.hid ((Below.refl _ w).alloc (Nat.le_refl _) _)
  have HE : Hid (eltsAt intE (w.alloc (.cells #[] 3)) v X) := Lib.hid (h.below HB.out (Nat.le_refl _))
  subst hv
  have hsn := slice_nil ad n c w
  clear h
  go_enter Tryz.func84, Tryz.ntmps84
  go_wp2_with (at_builtin; refine wpList_append_elts intE rfl (.tmp 5) (.tmp 6) rfl w.heap.size _ _ [] X rfl rfl HA.out HE.out (someNone _ _ _) (by simp; omega) HB.out.size ?_; intro r5 w5 hown5 hg5 _; have HO5 := Lib.hid hown5; have HG5 := Lib.hid hg5; clear hown5 hg5)
  go_ret
  exact ⟨_, rfl, HO5.out, HB.out.grown HG5.out HB.out.size fun g e => (HA.out.lt g e).1⟩
set_option maxRecDepth 100000 in
theorem symbols_any (K g : Nat) (X Y : List Int) (w : World) (h : SeqO w K g X Y) : Calls Tryz.prog 59 #[.pointer (some ⟨K, 0, none⟩)] w fun e w' => ∃ r, e = .returned r ∧ ownE intE w' w.heap.size r X ∧ Below w.heap.size w w' := by
  have c0 := h.cell
  have cC := clone_any _ X w _ _ _ rfl h.reads h.fewX
  clear h
  go_enter Tryz.func59, Tryz.ntmps59
  go_wp2_with fail
  refine cC.mono ?_
  rintro e w1 ⟨r, rfl, ho, hb⟩
  have HO := Lib.hid ho; have HB := Lib.hid hb
  clear ho hb
  go_wp2
  go_ret
  exact ⟨_, rfl, HO.out, HB.out⟩
set_option maxRecDepth 100000 in
theorem Kept.undrew {S : Nat → Prop} {u u' : World} (h : Kept S u.drew u') : Kept S u u' := ⟨h.os, h.tape, h.output, h.size, h.block⟩
def PairsRel (w : World) (X : List Int) (b : Nat) (i : Value) (wr : World) : Prop :=
  ∃ k : Nat, i = .int .i64 (k : Int) ∧ 1 ≤ k ∧ (k ≤ X.length ∨ k = 1) ∧ PMap wr b (k - 1) (cntP (X.take k)) ∧ Below w.heap.size w wr
set_option maxRecDepth 100000 in
theorem pairs_step {w wr w5 : World} {X : List Int} {b k : Nat} (hb : w.heap.size ≤ b) (h1 : 1 ≤ k) (hk : k < X.length) (hbel : Below w.heap.size w wr) (hm : PMap w5 b (k - 1 + 1) (addP (cntP (X.take k)) (X[k - 1], X[k]) 1)) (hkp : Kept (fun j => j = b) wr w5) : PairsRel w X b (.int .i64 ((k : Int) + 1)) w5 := by
  refine ⟨k + 1, by simp, by omega, .inl (by omega), ?_, Below.kept hbel hkp (fun i e => by subst e; exact hb) hbel.size⟩
  have e : addP (cntP (X.take k)) (X[k - 1], X[k]) 1 = cntP (X.take (k + 1)) := by
    funext q
    rw [addP_eq, cnt_take (by omega) hk]
  rw [e] at hm
  rwa [show k + 1 - 1 = k - 1 + 1 by omega]
set_option maxRecDepth 100000 in
set_option maxHeartbeats 2000000 in
theorem pairs_any (K g : Nat) (X Y : List Int) (w : World) (h : SeqO w K g X Y) :
    Calls Tryz.prog 68 #[.pointer (some ⟨K, 0, none⟩)] w fun e w' => ∃ v L, e = .returned v ∧ ownE chgE w' w.heap.size v L ∧ ChangesOf (cntP X) L ∧ L.length ≤ X.length ∧ Below w.heap.size w w' := by
  have H := Lib.hid h
  have hf := h.fewX
  clear h
  have HM : Hid (PMap (w.alloc (.map #[] 0)) w.heap.size 0 (cntP (X.take 1))) := Lib.hid (by rw [show cntP (X.take 1) = fun _ => 0 from funext fun q => cnt_take_one X q]; exact pmap_made w)
  have HB0 : Hid (Below w.heap.size w (w.alloc (.map #[] 0))) := Lib.hid ((Below.refl _ w).alloc (Nat.le_refl _) _)
  have hmm := @run_makeMap Tryz.prog
  go_enter Tryz.func68, Tryz.ntmps68
  go_wp2
  clear hmm
  go_loopw [4] (fun i wr => PairsRel w X w.heap.size i wr) (fun i _ => X.length - (intOf i).toNat)
  case atStart => exact ⟨1, rfl, by omega, .inr rfl, HM.out, HB0.out⟩
  case round =>
    obtain ⟨k, rfl, h1, hk, hm, hbel⟩ := hrel
    have HMR := Lib.hid hm; have HB := Lib.hid hbel
    clear hm hbel HM HB0
    have HS := Lib.hid (H.out.below HB.out)
    have c0 := HS.out.cell
    by_cases hgo : k < X.length
    · obtain ⟨j, rfl⟩ : ∃ j, k = j + 1 := ⟨k - 1, by omega⟩
      have cA := HS.out.at (j := j) (by omega)
      have cB := HS.out.at (j := j + 1) (by omega)
      have hs1 : IntKind.i64.wrap ((j : Int) + 1 - 1) = (j : Int) := by rw [IntWalk.i64_in _ (by omega)]; omega
      have hs2 : IntKind.i64.wrap (j : Int) = (j : Int) := IntWalk.i64_in _ (by omega)
      have i0 : (0 : Int) ≤ (j : Int) := by omega
      have i1 : (j : Int) < (X.length : Int) := by omega
      have i2 : (0 : Int) ≤ (j : Int) + 1 := by omega
      have i3 : (j : Int) + 1 < (X.length : Int) := by omega
      have i4 : ((j : Int) + 1).toNat = j + 1 := by omega
      have fA := H.out.fits X[j] (List.getElem_mem _)
      have fB := H.out.fits X[j + 1] (List.getElem_mem _)
      have cAdd := padd_any w.heap.size (j + 1 - 1) (cntP (X.take (j + 1))) X[j] X[j + 1] 1 wr.drew HMR.out ⟨fA, fB⟩ (by omega) (by omega)
      have HLT : Hid (K < w.heap.size ∧ g < w.heap.size) := Lib.hid ⟨H.out.ltK, H.out.ltg⟩
      have HSZ : Hid (w.heap.size ≤ wr.heap.size) := Lib.hid HB.out.size
      go_wp2_with fail
      go_region_held3 (fun w' => w'.cell? ⟨K, 0, none⟩ = some (.slice (some ⟨g, 0, none⟩) X.length (X.length + Y.length)) ∧ w'.cell? ⟨g, j, none⟩ = some (.int .i64 X[j]) ∧ w'.cell? ⟨g, j + 1, none⟩ = some (.int .i64 X[j + 1])) (first | exact ⟨c0, cA, cB⟩ | exact ⟨d0, dA, dB⟩) (first | (go_at_call 89; refine cAdd.mono ?_; rintro e w5 ⟨rfl, hm5, hk5⟩; have HM5 := Lib.hid hm5; have HK5 := Lib.hid hk5; clear hm5 hk5; have d0 : w5.cell? ⟨K, 0, none⟩ = some (.slice (some ⟨g, 0, none⟩) X.length (X.length + Y.length)) := (World.cell?_of_block (HK5.out.block K (by have := HLT.out; have := HSZ.out; show K < wr.heap.size; omega) (by have := HLT.out; omega))).trans c0; have dA : w5.cell? ⟨g, j, none⟩ = some (.int .i64 X[j]) := (World.cell?_of_block (HK5.out.block g (by have := HLT.out; have := HSZ.out; show g < wr.heap.size; omega) (by have := HLT.out; omega))).trans cA; have dB : w5.cell? ⟨g, j + 1, none⟩ = some (.int .i64 X[j + 1]) := (World.cell?_of_block (HK5.out.block g (by have := HLT.out; have := HSZ.out; show g < wr.heap.size; omega) (by have := HLT.out; omega))).trans cB))
      all_goals go_wp2
      all_goals go_roundw
      case rel => exact pairs_step (k := j + 1) (Nat.le_refl _) (by omega) hgo HB.out HM5.out (Kept.undrew HK5.out)
      case measure => simp [intOf]; omega
    · have HX : Hid (X.take k = X) := Lib.hid (List.take_of_length_le (by omega))
      have hN : k - 1 ≤ X.length := by omega
      have cR := rising_any w.heap.size (k - 1) (cntP (X.take k)) wr HMR.out (by omega)
      go_wp2_with fail
      refine cR.mono ?_
      rintro e w5 ⟨v, L, rfl, ho, hc, hl, hb5⟩
      have HO := Lib.hid (ho.mono HB.out.size); have HC := Lib.hid hc; have HL := Lib.hid hl; have HB5 := Lib.hid hb5
      clear ho hc hl hb5
      go_wp2
      go_ret
      exact ⟨_, L, rfl, HO.out, by have := HC.out; rwa [HX.out] at this, by have := HL.out; omega, HB.out.trans (HB5.out.mono HB.out.size)⟩
end Go.Proofs.YtnmacalbbmeedaaGreat
/- A map of pairs that holds values as they are. -/
namespace Go.Proofs.YtnmacalbbmeedaaGreat
open Go.RowKit Go.Maps

def rawR (v : Value) : Option (DataW Value × List MemPlace) := some (.held v, [])
def nilV : Value := .slice none 0 0
/-- A function turned at one pair. -/
def upd {β : Type} (f : Int × Int → β) (p : Int × Int) (x : β) : Int × Int → β := fun q => if q = p then x else f q
set_option maxRecDepth 100000 in
theorem upd_same {β : Type} (f : Int × Int → β) (p : Int × Int) (x : β) : upd f p x p = x := if_pos rfl
set_option maxRecDepth 100000 in
theorem upd_other {β : Type} (f : Int × Int → β) (p : Int × Int) (x : β) {q : Int × Int} (h : q ≠ p) : upd f p x q = f q := if_neg h
set_option maxRecDepth 100000 in
theorem vzero (w : World) : (zeroValue 87).run Tryz.prog w = .ok (.slice none 0 0) w := by kernel_rfl
/-- Block b is a map that tells V p at each pair p. N: how often it was written at most. -/
def VMap (w : World) (b N : Nat) (V : Int × Int → Value) : Prop :=
  ∃ D : DataW Value, w.ownsMap Tryz.prog 77 rawR b N D ∧ ∀ p, FitsPr p → D.atKey (pk p) (.held nilV) = .held (V p)
set_option maxRecDepth 100000 in
theorem vmap_made (w : World) : VMap (w.alloc (.map #[] 0)) w.heap.size 0 (fun _ => nilV) := ⟨.map [], World.ownsMap_made w Tryz.prog 77 _, fun _ _ => rfl⟩
set_option maxRecDepth 100000 in
theorem VMap.kept {w w' : World} {b N : Nat} {V : Int × Int → Value} (h : VMap w b N V) (hk : w'.heap[b]? = w.heap[b]?) : VMap w' b N V := by
  obtain ⟨D, ⟨es, clock, hb, rest⟩, h1⟩ := h
  exact ⟨D, ⟨es, clock, hk.trans hb, rest⟩, h1⟩
set_option maxRecDepth 100000 in
theorem VMap.lt {w : World} {b N : Nat} {V : Int × Int → Value} (h : VMap w b N V) : b < w.heap.size := by
  obtain ⟨D, h0, _⟩ := h
  exact World.ownsMap.lt h0
set_option maxRecDepth 100000 in
theorem VMap.block {w : World} {b N : Nat} {V : Int × Int → Value} (h : VMap w b N V) : ∃ es clock, w.heap[b]? = some (.map es clock) := by
  obtain ⟨D, ⟨es, clock, hb, _⟩, _⟩ := h
  exact ⟨es, clock, hb⟩
set_option maxRecDepth 100000 in
theorem VMap.mono {w : World} {b N N' : Nat} {V : Int × Int → Value} (h : VMap w b N V) (hN : N ≤ N') : VMap w b N' V := by
  obtain ⟨D, h0, h1⟩ := h
  exact ⟨D, World.ownsMap.mono h0 hN, h1⟩
set_option maxRecDepth 100000 in
theorem vlook {w : World} {b N : Nat} {V : Int × Int → Value} (h : VMap w b N V) {p : Int × Int} (hp : FitsPr p) : (Instr.lookup 99 (.map (some b)) (pv p) false).run Tryz.prog w = .ok (V p) w := by
  obtain ⟨D, ho, hr⟩ := h
  obtain ⟨v, ps, hrun, hv⟩ := World.ownsMap.lookup ho lawP Tryz.underlying99 (vzero w) (zd := .held nilV) (zp := []) rfl (key_pair hp)
  rw [hr p hp] at hv
  unfold rawR at hv
  simp only [Option.some.injEq, Prod.mk.injEq, DataW.held.injEq] at hv
  rw [hrun, hv.1]
set_option maxRecDepth 100000 in
theorem vput {w : World} {b N : Nat} {V : Int × Int → Value} (h : VMap w b N V) {p : Int × Int} (hp : FitsPr p) (hN : N ≤ 1000000000000) (u : Value) :
    ∃ w', (Instr.mapUpdate 99 (.map (some b)) (pv p) u).run Tryz.prog w = .ok () w' ∧ VMap w' b (N + 1) (upd V p u) ∧ w.mapTurned w' b := by
  obtain ⟨D, ho, hr⟩ := h
  obtain ⟨w', h1, h2, h3⟩ := ho.store lawP Tryz.underlying99 (by unfold maxLen; omega) (key_pair hp) (d := .held u) (ps := []) rfl
  refine ⟨w', h1, ⟨_, h2, fun q hq => ?_⟩, h3⟩
  by_cases e : q = p
  · subst e; rw [upd_same, atKey_put_same ho.isMap (pk_key _)]
  · rw [upd_other _ _ _ e, atKey_put_other fun k => e (pk_inj hq hp k)]; exact hr q hq
set_option maxRecDepth 100000 in
theorem vdrop {w : World} {b N : Nat} {V : Int × Int → Value} (h : VMap w b N V) {p : Int × Int} (hp : FitsPr p) :
    ∃ w', (∀ ty, (Builtin.delete_ #[99, 77] ty #[.map (some b), pv p]).run Tryz.prog w = .ok (.tuple #[]) w') ∧ VMap w' b N (upd V p nilV) ∧ w.mapTurned w' b := by
  obtain ⟨D, ho, hr⟩ := h
  obtain ⟨w', r1, r2, r3⟩ := ho.drop lawP Tryz.underlying99 (key_pair hp) 0
  refine ⟨w', fun ty => by rw [← r1]; rfl, ⟨_, r2, fun q hq => ?_⟩, r3⟩
  by_cases e : q = p
  · subst e; rw [upd_same, atKey_del_same]
  · rw [upd_other _ _ _ e, atKey_del_other fun k => e (pk_inj hq hp k)]; exact hr q hq
end Go.Proofs.YtnmacalbbmeedaaGreat
/- Counts of pairs as plain lists that rise. -/
namespace Go.Proofs.YtnmacalbbmeedaaGreat

abbrev Cn := List ((Int × Int) × Int)
instance dpbDec (p q : Int × Int) : Decidable (pb p q) := by unfold pb; infer_instance
def RisC (L : Cn) : Prop := L.Pairwise fun x y => pb x.1 y.1
/-- Is the pair there? -/
def inC (L : Cn) (p : Int × Int) : Bool := L.any fun x => decide (x.1 = p)
/-- How often it is there. -/
def getC : Cn → Int × Int → Int
  | [], _ => 0
  | x :: r, p => if x.1 = p then x.2 else getC r p
def delC (L : Cn) (p : Int × Int) : Cn := L.filter fun x => decide (x.1 ≠ p)
def insC (p : Int × Int) (n : Int) : Cn → Cn
  | [] => [(p, n)]
  | x :: r => if pb x.1 p then x :: insC p n r else (p, n) :: delC (x :: r) p
def setC (L : Cn) (p : Int × Int) (n : Int) : Cn := if n = 0 then delC L p else insC p n L
set_option maxRecDepth 100000 in
theorem inC_iff {L : Cn} {p : Int × Int} : inC L p = true ↔ ∃ c, (p, c) ∈ L := by
  unfold inC
  rw [List.any_eq_true]
  constructor
  · rintro ⟨x, hx, h⟩
    have := of_decide_eq_true h
    subst this
    exact ⟨x.2, hx⟩
  · rintro ⟨c, h⟩
    exact ⟨_, h, by simp⟩
set_option maxRecDepth 100000 in
theorem inC_false {L : Cn} {p : Int × Int} (h : ∀ c, (p, c) ∉ L) : inC L p = false := by
  cases e : inC L p with
  | false => rfl
  | true => obtain ⟨c, hc⟩ := inC_iff.1 e; exact absurd hc (h c)
set_option maxRecDepth 100000 in
theorem get_none : ∀ {L : Cn} {p : Int × Int}, (∀ c, (p, c) ∉ L) → getC L p = 0
  | [], _, _ => rfl
  | x :: r, p, h => by
    rw [getC, if_neg, get_none fun c hc => h c (List.mem_cons_of_mem _ hc)]
    intro e
    subst e
    exact h x.2 List.mem_cons_self
set_option maxRecDepth 100000 in
theorem get_mem : ∀ {L : Cn} {p : Int × Int} {c : Int}, RisC L → (p, c) ∈ L → getC L p = c
  | x :: r, p, c, hR, h => by
    have hR' := List.pairwise_cons.1 hR
    rw [getC]
    rcases List.mem_cons.1 h with e | h
    · subst e; rw [if_pos rfl]
    · have := hR'.1 _ h
      rw [if_neg fun e => pb_irrefl p (by rw [e] at this; exact this), get_mem hR'.2 h]
set_option maxRecDepth 100000 in
/-- What is told of a pair is of the list, or 0. -/
theorem get_in {L : Cn} {p : Int × Int} (h : inC L p = true) : (p, getC L p) ∈ L := by
  induction L with
  | nil => simp [inC] at h
  | cons x r ih =>
    rw [getC]
    by_cases e : x.1 = p
    · rw [if_pos e]; subst e; exact List.mem_cons_self
    · rw [if_neg e]
      refine List.mem_cons_of_mem _ (ih ?_)
      simpa [inC, e] using h
set_option maxRecDepth 100000 in
theorem get_out {L : Cn} {p : Int × Int} (h : inC L p = false) : getC L p = 0 :=
  get_none fun c hc => by rw [inC_iff.2 ⟨c, hc⟩] at h; cases h
set_option maxRecDepth 100000 in
theorem del_mem {L : Cn} {p : Int × Int} {x : (Int × Int) × Int} : x ∈ delC L p ↔ x ∈ L ∧ x.1 ≠ p := by
  unfold delC; rw [List.mem_filter]; simp
set_option maxRecDepth 100000 in
theorem ins_mem {p : Int × Int} {n : Int} {x : (Int × Int) × Int} : ∀ {L : Cn}, x ∈ insC p n L ↔ x = (p, n) ∨ (x ∈ L ∧ x.1 ≠ p)
  | [] => by simp [insC]
  | y :: r => by
    rw [insC]
    split
    · rename_i h
      rw [List.mem_cons, ins_mem (L := r), List.mem_cons]
      constructor
      · rintro (rfl | h1 | ⟨h1, h2⟩)
        · exact .inr ⟨.inl rfl, fun e => pb_irrefl p (by rw [e] at h; exact h)⟩
        · exact .inl h1
        · exact .inr ⟨.inr h1, h2⟩
      · rintro (h1 | ⟨h1 | h1, h2⟩)
        · exact .inr (.inl h1)
        · exact .inl h1
        · exact .inr (.inr ⟨h1, h2⟩)
    · rw [List.mem_cons, del_mem]
set_option maxRecDepth 100000 in
theorem ris_del {L : Cn} (h : RisC L) (p : Int × Int) : RisC (delC L p) := List.Pairwise.filter _ h
set_option maxRecDepth 100000 in
theorem ris_ins {p : Int × Int} {n : Int} : ∀ {L : Cn}, RisC L → RisC (insC p n L)
  | [], _ => List.pairwise_singleton _ _
  | x :: r, h => by
    have h' := List.pairwise_cons.1 h
    rw [insC]
    split
    · rename_i hx
      refine List.pairwise_cons.2 ⟨fun y hy => ?_, ris_ins h'.2⟩
      rcases ins_mem.1 hy with rfl | ⟨hy, _⟩
      · exact hx
      · exact h'.1 y hy
    · rename_i hx
      refine List.pairwise_cons.2 ⟨fun y hy => ?_, ris_del h p⟩
      obtain ⟨hy, hne⟩ := del_mem.1 hy
      rcases List.mem_cons.1 hy with rfl | hy
      · exact (pb_total hne).resolve_left hx
      · have h1 := h'.1 y hy
        by_cases e : x.1 = p
        · rw [e] at h1; exact h1
        · exact pb_trans ((pb_total e).resolve_left hx) h1
set_option maxRecDepth 100000 in
theorem ris_set {L : Cn} (h : RisC L) (p : Int × Int) (n : Int) : RisC (setC L p n) := by
  unfold setC; split
  · exact ris_del h p
  · exact ris_ins h
set_option maxRecDepth 100000 in
theorem set_mem {L : Cn} {p : Int × Int} {n : Int} {x : (Int × Int) × Int} : x ∈ setC L p n ↔ (n ≠ 0 ∧ x = (p, n)) ∨ (x ∈ L ∧ x.1 ≠ p) := by
  unfold setC; split
  · rename_i h; rw [del_mem]; simp [h]
  · rename_i h; rw [ins_mem]; simp [h]
set_option maxRecDepth 100000 in
theorem get_ext {L M : Cn} {q : Int × Int} (hM : RisC M) (h : ∀ c, (q, c) ∈ L ↔ (q, c) ∈ M) : getC L q = getC M q := by
  cases e : inC L q with
  | true =>
    have h1 := get_in e
    exact (get_mem hM ((h _).1 h1)).symm
  | false =>
    rw [get_out e, get_none]
    intro c hc
    rw [inC_iff.2 ⟨c, (h c).2 hc⟩] at e; cases e
set_option maxRecDepth 100000 in
theorem get_del {L : Cn} (h : RisC L) (p q : Int × Int) : getC (delC L p) q = if q = p then 0 else getC L q := by
  split
  · rename_i e
    subst e
    exact get_none fun c hc => (del_mem.1 hc).2 rfl
  · rename_i e
    exact get_ext h fun c => by rw [del_mem]; simp [e]
set_option maxRecDepth 100000 in
theorem get_ins {L : Cn} (h : RisC L) (p q : Int × Int) (n : Int) : getC (insC p n L) q = if q = p then n else getC L q := by
  split
  · rename_i e
    subst e
    exact get_mem (ris_ins h) (ins_mem.2 (.inl rfl))
  · rename_i e
    exact get_ext h fun c => by rw [ins_mem]; simp [e]
set_option maxRecDepth 100000 in
theorem get_set {L : Cn} (h : RisC L) (p q : Int × Int) (n : Int) : getC (setC L p n) q = if q = p then n else getC L q := by
  unfold setC; split
  · rename_i e; rw [get_del h, e]
  · exact get_ins h p q n
set_option maxRecDepth 100000 in
theorem in_ext {L M : Cn} {q : Int × Int} (h : ∀ c, (q, c) ∈ L ↔ (q, c) ∈ M) : inC L q = inC M q := by
  rw [Bool.eq_iff_iff, inC_iff, inC_iff]
  exact ⟨fun ⟨c, hc⟩ => ⟨c, (h c).1 hc⟩, fun ⟨c, hc⟩ => ⟨c, (h c).2 hc⟩⟩
set_option maxRecDepth 100000 in
theorem in_del (L : Cn) (p q : Int × Int) : inC (delC L p) q = if q = p then false else inC L q := by
  split
  · rename_i e; subst e; exact inC_false fun c hc => (del_mem.1 hc).2 rfl
  · rename_i e; exact in_ext fun c => by rw [del_mem]; simp [e]
set_option maxRecDepth 100000 in
theorem in_ins (L : Cn) (p q : Int × Int) (n : Int) : inC (insC p n L) q = if q = p then true else inC L q := by
  split
  · rename_i e; subst e; exact inC_iff.2 ⟨n, ins_mem.2 (.inl rfl)⟩
  · rename_i e; exact in_ext fun c => by rw [ins_mem]; simp [e]
set_option maxRecDepth 100000 in
theorem del_same {L : Cn} {p : Int × Int} (h : ∀ x ∈ L, x.1 ≠ p) : delC L p = L := List.filter_eq_self.2 fun x hx => by simp [h x hx]
set_option maxRecDepth 100000 in
theorem len_del : ∀ {L : Cn}, RisC L → ∀ p, (delC L p).length + (if inC L p then 1 else 0) = L.length
  | [], _, p => by simp [delC, inC]
  | x :: r, h, p => by
    have h' := List.pairwise_cons.1 h
    have ih := len_del h'.2 p
    by_cases e : x.1 = p
    · have e1 : delC (x :: r) p = r := by
        have : delC (x :: r) p = delC r p := by unfold delC; rw [List.filter_cons_of_neg (by simp [e])]
        rw [this, del_same]
        intro y hy e2
        have := h'.1 y hy
        rw [e, e2] at this
        exact pb_irrefl p this
      have e2 : inC (x :: r) p = true := by simp [inC, e]
      rw [e1, e2]; simp
    · have e1 : delC (x :: r) p = x :: delC r p := by unfold delC; rw [List.filter_cons_of_pos (by simp [e])]
      have e2 : inC (x :: r) p = inC r p := by simp [inC, e]
      rw [e1, e2, List.length_cons, List.length_cons]; omega
set_option maxRecDepth 100000 in
theorem len_ins {p : Int × Int} {n : Int} : ∀ {L : Cn}, RisC L → (insC p n L).length = if inC L p then L.length else L.length + 1
  | [], _ => by simp [insC, inC]
  | x :: r, h => by
    have h' := List.pairwise_cons.1 h
    rw [insC]
    split
    · rename_i hx
      have e : x.1 ≠ p := fun e => pb_irrefl p (by rw [e] at hx; exact hx)
      have e2 : inC (x :: r) p = inC r p := by simp [inC, e]
      rw [List.length_cons, len_ins h'.2, e2]; simp; split <;> omega
    · have := len_del h p
      rw [List.length_cons]
      by_cases hh : inC (x :: r) p = true
      · rw [if_pos hh] at this ⊢; omega
      · rw [if_neg hh] at this ⊢; omega
set_option maxRecDepth 100000 in
/-- Two lists that rise and tell the same of every pair are one. -/
theorem ris_ext {L M : Cn} (hL : RisC L) (hM : RisC M) (h : ∀ x, x ∈ L ↔ x ∈ M) : L = M := rising_unique (fun _ _ h => pb_asymm h) h hL hM
set_option maxRecDepth 100000 in
theorem set_len {L : Cn} (h : RisC L) (p : Int × Int) (n : Int) : (setC L p n).length ≤ L.length + 1 := by
  unfold setC; split
  · have := len_del h p; omega
  · rw [len_ins h]; split <;> omega
end Go.Proofs.YtnmacalbbmeedaaGreat
