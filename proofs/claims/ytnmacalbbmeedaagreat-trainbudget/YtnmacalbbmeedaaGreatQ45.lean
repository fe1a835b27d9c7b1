/- Texts in one: TlRead. -/
import Derived.Test.YtnmacalbbmeedaaGreatQ43
import Derived.Test.YtnmacalbbmeedaaGreatQ44
/- A learner's own readers: what a symbol stands for, rows of them, the words, what was counted, the merges. -/
namespace Go.Proofs.YtnmacalbbmeedaaGreat
open Go.RowKit Go.Maps Go.Shelf

variable {w w' : World} {S : Nat → Prop} {Kx Kq T N K : Nat} {J : List Joint} {M : Mdl} {q : Qm} {L : Bag} {b d ps c : Int} {ms : List Mg}
set_option maxRecDepth 100000 in
theorem t3_textG (h : Tr3 w S Kx Kq T N J M q) (hJ : J.length ≤ 1000000) (id : Int) (i0 : -9223372036854775808 ≤ id) (i1 : id ≤ 9223372036854775807) : Calls Tryz.prog 58 #[.pointer (some ⟨T, 0, none⟩), .int .i64 id] w fun e w' => e = .returned (.tuple #[.string (txtOf J id), .bool (thereOf J id)]) ∧ Grown w w' := by
  obtain ⟨lab, V, tv, tb, Sq, h1, h2, h3, h4, h5⟩ := h
  exact textG_any T tv tb J id w h2.stab.1 hJ i0 i1
set_option maxRecDepth 100000 in
theorem tltext_any (h : Tr3 w S Kx Kq T N J M q) (hbox : w.heap[K]? = some (lrnV Kx T Kq b d ps c)) (hJ : J.length ≤ 1000000) (id : Int) (i0 : -9223372036854775808 ≤ id) (i1 : id ≤ 9223372036854775807) :
    Calls Tryz.prog 36 #[.pointer (some ⟨K, 0, none⟩), .int .i64 id] w fun e w' => e = .returned (.string (txtOf J id)) ∧ Grown w w' := by
  have cT := t3_textG h hJ id i0 i1
  have z0 := (lrnC hbox).sy
  obtain ⟨x, hx⟩ : ∃ x, txtOf J id = x := ⟨_, rfl⟩
  rw [hx] at cT ⊢
  clear h hbox hx
  generalize thereOf J id = t at *
  go_enter Tryz.func36, Tryz.ntmps36
  go_wp2_with fail
  refine cT.mono ?_
  rintro e w1 ⟨rfl, hg⟩
  clear cT z0
  go_wp2
  go_ret
  exact ⟨rfl, hg⟩
def TxsRel (Z : List ByteArray) (w : World) (g : Nat) (x : Value) (wr : World) : Prop := ∃ k : Nat, x = .int .i64 (k : Int) ∧ k ≤ Z.length ∧ rowE textE wr g (npfill ⟨#[]⟩ Z k) ∧ Below w.heap.size w wr
set_option maxRecDepth 100000 in
set_option maxHeartbeats 4000000 in
theorem tltexts_any (x : Value) (X : List Int) (h : Tr3 w S Kx Kq T N J M q) (hbox : w.heap[K]? = some (lrnV Kx T Kq b d ps c)) (hx : eltsAt intE w x X) (hX : X.length ≤ 1000000) (hJ : J.length ≤ 1000000) (hf : ∀ y ∈ X, -9223372036854775808 ≤ y ∧ y ≤ 9223372036854775807) :
    Calls Tryz.prog 41 #[.pointer (some ⟨K, 0, none⟩), x] w fun e w' => ∃ r, e = .returned r ∧ ownE textE w' w.heap.size r (txW J X) ∧ Below w.heap.size w w' := by
  obtain ⟨a, cap, rfl, _⟩ := id hx
  obtain ⟨n, hn⟩ : ∃ n, X.length = n := ⟨_, rfl⟩
  rw [hn] at hX hx ⊢
  obtain ⟨Z, hZ⟩ : ∃ Z, txW J X = Z := ⟨_, rfl⟩
  have hZn : Z.length = n := by rw [← hZ, ← hn]; simp [txW]
  have HZA : Hid (∀ k (h : k < X.length) (h' : k < Z.length), Z[k] = txtOf J X[k]) := Lib.hid fun k h h' => by subst hZ; simp [txW]
  rw [hZ]
  have HT := Lib.hid h; have HX := Lib.hid hx; have HN := Lib.hid hn; have HF := Lib.hid hf
  have HBX := Lib.hid hbox
  have HKL := Lib.hid (Array.getElem?_eq_some_iff.1 hbox).1
  obtain ⟨i0, hi, hz0, hz1, hz2⟩ := info_parts textE.info
  have hz2' : i0.bytes = 16 := hz2
  clear h hx hn hbox hZ hf
  go_enter Tryz.func41, Tryz.ntmps41
  go_wp2_with (at_make; refine wpList_make_full _ rfl _ _ 52 rfl w.heap.size 9 i0 textE.zero 1 Tryz.underlying52 hi hz0 hz1 .i64 .i64 _ _ n rfl rfl rfl rfl (by rw [hz2']; omega) (by unfold maxLen; omega) (Nat.le_refl _) ?_; intro w1 hown1 hgr1)
  have HR1 : Hid (rowE textE w1 w.heap.size (List.replicate n ⟨#[]⟩)) := Lib.hid (rowE_made textE ⟨#[]⟩ rfl hown1)
  have HB1 : Hid (Below w.heap.size w w1) := Lib.hid ((Below.refl w.heap.size w).grown hgr1 (Nat.le_refl _) fun g hg => by cases hg)
  clear hown1 hgr1 hi hz0 hz1 hz2 hz2'
  obtain ⟨g, hg⟩ : ∃ g, w.heap.size = g := ⟨_, rfl⟩
  have HG : Hid (w.heap.size = g) := Lib.hid hg
  rw [hg] at HR1 ⊢
  clear hg
  go_loopw [13] (fun x wr => TxsRel Z w g x wr) (fun x _ => n - (intOf x).toNat)
  case atStart => exact ⟨0, rfl, Nat.zero_le _, by rw [npfill_zero, hZn]; exact HR1.out, HB1.out⟩
  case round =>
    clear HR1 HB1
    obtain ⟨k, rfl, hk, hr, hb⟩ := hrel
    have HR := Lib.hid hr; have HB := Lib.hid hb
    clear hr hb
    by_cases hgo : k < n
    · have hgoI : (k : Int) < (n : Int) := by omega
      have hkX : k < X.length := by rw [HN.out]; exact hgo
      have hkZ : k < Z.length := by omega
      have hwk : IntKind.i64.wrap ((k : Int) + 1) = (k : Int) + 1 := IntWalk.i64_in _ (by omega)
      have hX2 := HX.out
      rw [← HN.out] at hX2
      obtain ⟨ad, rfl⟩ : ∃ ad, a = some ad := by
        obtain ⟨_, _, e1, hc⟩ := hX2
        obtain ⟨ad, e2, _⟩ := hc k hkX
        exact ⟨ad, (Value.slice.inj e1).1.trans e2⟩
      have c0 := ints_cell hX2 HB.out hkX
      obtain ⟨y, hy⟩ : ∃ y, X[k] = y := ⟨_, rfl⟩
      rw [hy] at c0
      have hyf := HF.out X[k] (List.getElem_mem _)
      rw [hy] at hyf
      have cT := tltext_any (K := K) (HT.out.below HB.out) ((HB.out.block K HKL.out).trans HBX.out) hJ y hyf.1 hyf.2
      obtain ⟨t, ht⟩ : ∃ t, txtOf J y = t := ⟨_, rfl⟩
      have HZK : Hid (Z[k] = t) := Lib.hid (by rw [HZA.out k hkX hkZ, hy, ht])
      rw [ht] at cT
      clear hX2 hy hyf ht
      go_wp2_with fail
      refine cT.mono ?_
      rintro e w2 ⟨rfl, hg2⟩
      have HR2 := Lib.hid (HR.out.kept (hg2.below.block g HR.out.lt))
      have HB2 := Lib.hid (HB.out.trans (hg2.below.mono HB.out.size))
      clear cT hg2 c0
      have hkl : k < (npfill (⟨#[]⟩ : ByteArray) Z k).length := by rw [npfill_len (by omega)]; omega
      obtain ⟨z0, f0⟩ := HR2.out.cell (j := k) (u := .string ⟨#[]⟩) hkl rfl (by rw [npfill_at (by omega)]; rfl)
      have HST : Hid (TxsRel Z w g (.int .i64 ((k : Int) + 1)) (w2.setCell ⟨g, k, none⟩ (.string t))) := Lib.hid ⟨k + 1, by simp, hkZ, by
        rw [← npfill_step hkZ, HZK.out]
        exact HR2.out.put _ hkl rfl rfl, HB2.out.setCell (p := ⟨g, k, none⟩) (show w.heap.size ≤ g by rw [HG.out]; exact Nat.le_refl _) _⟩
      clear hkl
      go_wp2
      go_roundw
      case rel => exact HST.out
      case measure => simp [intOf]; omega
    · have hgoI : ¬ (k : Int) < (n : Int) := by omega
      obtain rfl : k = n := by omega
      have hr := HR.out
      rw [← hZn, npfill_all] at hr
      have HE := Lib.hid (hr.own (b := w.heap.size) (by rw [HG.out]; exact Nat.le_refl _) (by rw [hZn]; unfold maxLen; omega))
      rw [hZn] at HE
      clear hr
      go_wp2
      go_ret
      exact ⟨_, rfl, HE.out, HB.out⟩
set_option maxRecDepth 100000 in
/-- The merges. -/
theorem tlmerges_any (h : Tr3 w S Kx Kq T N J M q) (hbox : w.heap[K]? = some (lrnV Kx T Kq b d ps c)) (hJ : J.length ≤ 900000) :
    Calls Tryz.prog 19 #[.pointer (some ⟨K, 0, none⟩)] w fun e w' => ∃ r, e = .returned r ∧ ownE mergeE w' w.heap.size r (mergesOf J) ∧ Below w.heap.size w w' := by
  have cM := t3_merges h hJ
  have z0 := (lrnC hbox).sy
  clear h hbox
  go_enter Tryz.func19, Tryz.ntmps19
  go_wp2_with fail
  refine cM.mono ?_
  rintro e w1 ⟨r, rfl, ho, hb⟩
  have HO := Lib.hid ho; have HB := Lib.hid hb
  clear cM ho hb z0
  go_wp2
  go_ret
  exact ⟨r, rfl, HO.out, HB.out⟩
/-! Of none. -/
set_option maxRecDepth 100000 in
theorem tlmerges_nil (w : World) : Calls Tryz.prog 19 #[.pointer none] w fun e w' => (∃ a c, e = .returned (.slice a 0 c)) ∧ Below w.heap.size w w' := by
  have HB := Lib.hid (Below.refl w.heap.size w)
  go_enter Tryz.func19, Tryz.ntmps19
  go_wp2
  go_ret
  exact ⟨⟨none, 0, rfl⟩, HB.out⟩
set_option maxRecDepth 100000 in
theorem tlwords_nil (w : World) : Calls Tryz.prog 18 #[.pointer none] w fun e w' => (∃ a c, e = .returned (.slice a 0 c)) ∧ Below w.heap.size w w' := by
  have HB := Lib.hid (Below.refl w.heap.size w)
  go_enter Tryz.func18, Tryz.ntmps18
  go_wp2
  go_ret
  exact ⟨⟨none, 0, rfl⟩, HB.out⟩
end Go.Proofs.YtnmacalbbmeedaaGreat
