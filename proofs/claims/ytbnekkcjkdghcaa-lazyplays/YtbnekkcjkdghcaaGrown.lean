/- What only lays blocks; what a symbol stands for, so told; comparisons of numbers and texts. -/
import Derived.Test.YtbnekkcjkdghcaaSTab
import Derived.Shelf.SlSortCmp.QuietGrown
import Derived.Shelf.Small.Strs
namespace Go.Proofs.Ytbnekkcjkdghcaa
open Go.RowKit Go.Maps Go.Shelf
open Go.Sort (grow grow_empty grow_grow alloc_eq_grow heap_grow_old)

def tcmpRen : Ren where
  f := fun x => match x with
    | 106 => 58
    | 213 => 63
    | 265 => 65
    | n => n
  t := fun x => x
  g := fun x => x
set_option maxRecDepth 100000 in
theorem tcmpLays : Lays.n106 Try.prog tcmpRen where
  mixed := by kernel_rfl
  f106 := by kernel_rfl
  f213 := by kernel_rfl
  f265 := by kernel_rfl
  t3 := by kernel_rfl
  a3 := fun w => by kernel_rfl
  z3 := fun w => by kernel_rfl
  v3 := fun w => by kernel_rfl
  t9 := by kernel_rfl
  a9 := fun w => by kernel_rfl
  z9 := fun w => by kernel_rfl
  v9 := fun w => by kernel_rfl
set_option maxRecDepth 100000 in
theorem tcompare_any (a b : ByteArray) (w : World) : Calls Try.prog 58 #[.string a, .string b] w fun e w' => e = .returned (.int .i64 (Lib.compareBytes (bs a) (bs b))) ∧ w' = w := Any.strings_Compare tcmpLays a b w

/-- w' is w, with some draws, and with blocks laid behind it. -/
def Grown (w w' : World) : Prop := ∃ q os, w' = grow (w.drewN q) os
set_option maxRecDepth 100000 in
theorem Grown.refl (w : World) : Grown w w := ⟨0, #[], by rw [grow_empty]; rfl⟩
set_option maxRecDepth 100000 in
theorem Grown.trans {a b c : World} (h : Grown a b) (k : Grown b c) : Grown a c := by
  obtain ⟨q, os, rfl⟩ := h
  obtain ⟨q2, os2, rfl⟩ := k
  exact ⟨q + q2, os ++ os2, by show grow (grow ((a.drewN q).drewN q2) os) os2 = _; rw [grow_grow, World.drewN_drewN]⟩
set_option maxRecDepth 100000 in
theorem Grown.alloc {a b : World} (h : Grown a b) (o : Obj) : Grown a (b.alloc o) := h.trans ⟨0, #[o], by rw [alloc_eq_grow]; rfl⟩
set_option maxRecDepth 100000 in
theorem Grown.of (w : World) (n : Nat) (os : Array Obj) : Grown w (grow (w.drewN n) os) := ⟨n, os, rfl⟩
set_option maxRecDepth 100000 in
theorem Grown.drewN {a b : World} (h : Grown a b) (n : Nat) : Grown a (b.drewN n) := h.trans ⟨n, #[], by rw [grow_empty]⟩
set_option maxRecDepth 100000 in
theorem Grown.below {a b : World} (h : Grown a b) : Below a.heap.size a b := by
  obtain ⟨q, os, rfl⟩ := h
  exact ⟨rfl, rfl, rfl, by simp [World.drewN], fun k hk => heap_grow_old _ _ hk⟩
set_option maxRecDepth 100000 in
theorem Stab.grown {w w' : World} {K : Nat} {v : Value} {b : Option Nat} {J : List Joint} (h : Stab w K v b J) (k : Grown w w') : Stab w' K v b J := h.below k.below

/-! cmp.Compare of numbers. -/
def cmpI (a b : Int) : Int := if a < b then -1 else if b < a then 1 else 0
set_option maxRecDepth 100000 in
theorem isNaN_any (a : Int) (w : World) : Calls Try.prog 49 #[.int .i64 a] w fun e w' => e = .returned (.bool false) ∧ w' = w := by
  go_enter Try.func49, Try.ntmps49
  go_wp2
  go_ret
  exact ⟨rfl, rfl⟩
set_option maxRecDepth 100000 in
theorem cmpI_any (a b : Int) (w : World) : Calls Try.prog 40 #[.int .i64 a, .int .i64 b] w fun e w' => e = .returned (.int .i64 (cmpI a b)) ∧ w' = w := by
  have c1 := isNaN_any a w
  have c2 := isNaN_any b w
  unfold cmpI
  by_cases h1 : a < b
  · rw [if_pos h1]
    go_enter Try.func40, Try.ntmps40
    go_wp2_with fail
    refine c1.mono ?_
    rintro e w1 ⟨rfl, rfl⟩
    go_wp2_with fail
    refine c2.mono ?_
    rintro e w1 ⟨rfl, rfl⟩
    go_wp2
    go_ret
    exact ⟨rfl, rfl⟩
  · rw [if_neg h1]
    by_cases h2 : b < a
    · rw [if_pos h2]
      go_enter Try.func40, Try.ntmps40
      go_wp2_with fail
      refine c1.mono ?_
      rintro e w1 ⟨rfl, rfl⟩
      go_wp2_with fail
      refine c2.mono ?_
      rintro e w1 ⟨rfl, rfl⟩
      go_wp2
      go_ret
      exact ⟨rfl, rfl⟩
    · rw [if_neg h2]
      go_enter Try.func40, Try.ntmps40
      go_wp2_with fail
      refine c1.mono ?_
      rintro e w1 ⟨rfl, rfl⟩
      go_wp2_with fail
      refine c2.mono ?_
      rintro e w1 ⟨rfl, rfl⟩
      go_wp2
      go_ret
      exact ⟨rfl, rfl⟩

/-! What a symbol stands for, once more: nothing is turned, but blocks may be laid. -/
set_option maxRecDepth 100000 in
set_option maxHeartbeats 1000000 in
theorem jointG_any (K : Nat) (v : Value) (b : Option Nat) (J : List Joint) (id : Int) (w : World) (h : Stab w K v b J) (hJ : J.length ≤ 1000000) (i0 : -9223372036854775808 ≤ id) (i1 : id ≤ 9223372036854775807) :
    Calls Try.prog 60 #[.pointer (some ⟨K, 0, none⟩), .int .i64 id] w fun e w' => e = .returned (.tuple #[jointV (jointOf J id).1, .bool (jointOf J id).2]) ∧ Grown w w' := by
  have H := Lib.hid h
  have HA : Hid (Stab (w.alloc (.cells #[.string ⟨#[]⟩, .int .i64 0, .int .i64 0] 111)) K v b J) := Lib.hid (h.below ((Below.refl _ w).alloc (Nat.le_refl _) _))
  have HB : Hid (Grown w (w.alloc (.cells #[.string ⟨#[]⟩, .int .i64 0, .int .i64 0] 111))) := Lib.hid ((Grown.refl w).alloc _)
  clear h
  by_cases h1 : id < 256
  · rw [joint_not (by omega)]
    go_enter Try.func60, Try.ntmps60
    go_wp2
    refine bodyPost_ret (v := .tuple #[jointV (noText, 0, 0), .bool false]) (by rw [results_cell_tmp rfl]; simp [go_sem, jointV, noText]) rfl ?_
    exact ⟨rfl, HB.out⟩
  · by_cases h2 : id < ((256 + J.length : Nat) : Int)
    · obtain ⟨k, hk⟩ : ∃ k : Nat, id - 256 = (k : Int) := ⟨(id - 256).toNat, by omega⟩
      have hkJ : k < J.length := by omega
      rw [joint_yes hkJ (by omega)]
      obtain ⟨a, cap, rfl, _⟩ := H.out.row.form
      obtain ⟨ad, rfl⟩ := H.out.some hkJ
      obtain ⟨c0, c1, c2⟩ := H.out.at HB.out.below hkJ
      obtain ⟨x0, _⟩ := HA.out.cell
      obtain ⟨⟨t, p, q⟩, hp⟩ : ∃ p, J[k] = p := ⟨_, rfl⟩
      rw [hp] at c0 c1 c2 ⊢
      clear hp
      go_enter Try.func60, Try.ntmps60
      go_wp2_with (go_at_call 64; refine (slen_any K _ b J _ HA.out hJ).mono ?_; rintro e w1 ⟨rfl, rfl⟩)
      refine bodyPost_ret (v := .tuple #[jointV (t, p, q), .bool true]) (by rw [results_cell_tmp rfl]; simp [go_sem, jointV]) rfl ?_
      exact ⟨rfl, (Grown.refl w).alloc _⟩
    · rw [joint_not (by omega)]
      go_enter Try.func60, Try.ntmps60
      go_wp2_with (go_at_call 64; refine (slen_any K v b J _ HA.out hJ).mono ?_; rintro e w1 ⟨rfl, rfl⟩)
      refine bodyPost_ret (v := .tuple #[jointV (noText, 0, 0), .bool false]) (by rw [results_cell_tmp rfl]; simp [go_sem, jointV, noText]) rfl ?_
      exact ⟨rfl, HB.out⟩
set_option maxRecDepth 100000 in
set_option maxHeartbeats 1000000 in
theorem textG_any (K : Nat) (v : Value) (b : Option Nat) (J : List Joint) (id : Int) (w : World) (h : Stab w K v b J) (hJ : J.length ≤ 1000000) (i0 : -9223372036854775808 ≤ id) (i1 : id ≤ 9223372036854775807) :
    Calls Try.prog 52 #[.pointer (some ⟨K, 0, none⟩), .int .i64 id] w fun e w' => e = .returned (.tuple #[.string (txtOf J id), .bool (thereOf J id)]) ∧ Grown w w' := by
  have H := Lib.hid h
  clear h
  by_cases h1 : id < 0
  · have ht : thereOf J id = false := by
      unfold thereOf
      rw [decide_eq_false (by omega)]; rfl
    rw [ht, txt_not ht]
    go_enter Try.func52, Try.ntmps52
    go_wp2
    go_ret2
    exact ⟨rfl, Grown.refl _⟩
  · by_cases h2 : id < 256
    · obtain ⟨c, rfl⟩ : ∃ c : Nat, id = (c : Int) := ⟨id.toNat, by omega⟩
      have hc : c < 256 := by omega
      have ht : thereOf J (c : Int) = true := there_iff.2 ⟨by omega, by rw [texts_len]; omega⟩
      have hx : txtOf J (c : Int) = oneB c := by
        obtain ⟨h0, h1⟩ := there_iff.1 ht
        rw [txt_there h0 h1]
        exact texts_low hc (by rw [texts_len]; omega)
      rw [ht, hx]
      clear ht hx
      have hw : IntKind.u8.wrap (c : Int) = (c : Int) := by rw [IntKind.wrap_u8]; omega
      have e1 : ((UInt8.ofNat c).toNat : Int) = (c : Int) := by rw [UInt8.toNat_ofNat']; omega
      have hconv := (lit_bytes w [UInt8.ofNat c] 1 (0, 0) rfl).text
      simp only [bcells, List.map_cons, List.map_nil, e1] at hconv
      clear e1
      go_enter Try.func52, Try.ntmps52
      go_wp2
      go_ret2
      exact ⟨rfl, (Grown.refl w).alloc _⟩
    · obtain ⟨j1, j2⟩ := joint_txt (J := J) (id := id) (by omega)
      rw [← j1, ← j2]
      clear j1 j2
      have cJ := jointG_any K v b J id w H.out hJ i0 i1
      obtain ⟨⟨⟨t, p, q⟩, ok⟩, hj⟩ : ∃ r, jointOf J id = r := ⟨_, rfl⟩
      rw [hj] at cJ ⊢
      clear hj
      unfold jointV at cJ
      go_enter Try.func52, Try.ntmps52
      go_wp2_with (go_at_call 60; refine cJ.mono ?_; rintro e w1 ⟨rfl, hb⟩; have HB := Lib.hid hb; clear hb)
      go_ret2
      exact ⟨rfl, HB.out.alloc _⟩
set_option maxRecDepth 100000 in
theorem ptext_any (K : Nat) (v : Value) (b : Option Nat) (J : List Joint) (id : Int) (w : World) (h : Stab w K v b J) (hJ : J.length ≤ 1000000) (i0 : -9223372036854775808 ≤ id) (i1 : id ≤ 9223372036854775807) :
    Calls Try.prog 59 #[.pointer (some ⟨K, 0, none⟩), .int .i64 id] w fun e w' => e = .returned (.string (txtOf J id)) ∧ Grown w w' := by
  have cT := textG_any K v b J id w h hJ i0 i1
  clear h
  generalize txtOf J id = t at *
  generalize thereOf J id = ok at *
  go_enter Try.func59, Try.ntmps59
  go_wp2_with fail
  refine cT.mono ?_
  rintro e w1 ⟨rfl, hg⟩
  have HG := Lib.hid hg
  clear hg
  go_wp2
  go_ret
  exact ⟨rfl, HG.out⟩

end Go.Proofs.Ytbnekkcjkdghcaa
