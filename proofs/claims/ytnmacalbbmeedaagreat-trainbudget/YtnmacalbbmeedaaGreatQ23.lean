/- Texts in one: STab, Grown, Cmp, Item. -/
import Derived.Test.YtnmacalbbmeedaaGreatQ03
import Derived.Test.YtnmacalbbmeedaaGreatQ22
import Derived.Laws.ResultCell
import Derived.Shelf.SlSortCmp.QuietGrown
import Derived.Shelf.Small.Strs
import Derived.Deep.RegionHeld3
/- A table of symbols (sym): its memory, New, Len, how one was made, Text, Pair, Find. -/
namespace Go.Proofs.YtnmacalbbmeedaaGreat
open Go.RowKit Go.Maps

def jointE : Elt Joint where
  ty := 129
  sl := 104
  n := 3
  bytes := 32
  zero := .agg #[.string ⟨#[]⟩, .int .i64 0, .int .i64 0]
  enc := fun p => [.string p.1, .int .i64 p.2.1, .int .i64 p.2.2]
  under := Tryz.underlying104
  info := by kernel_rfl
  pos := by decide
  small := by decide
  zlen := by kernel_rfl
  len := fun _ => rfl
  one := fun x u hu => by
    simp only [List.mem_cons, List.not_mem_nil, or_false] at hu
    rcases hu with rfl | rfl | rfl <;> rfl
/-- The table in block K, whose joined symbols lie in v and whose map is b, has the symbols J. -/
structure Stab (w : World) (K : Nat) (v : Value) (b : Option Nat) (J : List Joint) : Prop where
  cells : w.heap[K]? = some (.cells #[v, .map b] 107 (0, 0))
  good : Good J
  row : ownE jointE w 0 v J
  map : ∃ L, MapOf J L ∧ mapIs w b L
/-- The blocks of a table. -/
def mineT (K : Nat) (v : Value) (b : Option Nat) (k : Nat) : Prop := k = K ∨ some k = v.ownBlock ∨ some k = b
set_option maxRecDepth 100000 in
theorem Stab.lt {w : World} {K : Nat} {v : Value} {b : Option Nat} {J : List Joint} (h : Stab w K v b J) : ∀ k, mineT K v b k → k < w.heap.size := by
  rintro k (rfl | e | e)
  · exact (Array.getElem?_eq_some_iff.1 h.cells).1
  · exact (h.row.lt k e.symm).2
  · obtain ⟨L, _, hm⟩ := h.map
    rw [← e] at hm
    exact hm.lt
set_option maxRecDepth 100000 in
theorem Stab.kept {w w' : World} {K : Nat} {v : Value} {b : Option Nat} {J : List Joint} (h : Stab w K v b J) (hk : ∀ k, k < w.heap.size → mineT K v b k → w'.heap[k]? = w.heap[k]?) : Stab w' K v b J := by
  obtain ⟨L, h1, h2⟩ := h.map
  refine ⟨(hk K (h.lt K (.inl rfl)) (.inl rfl)).trans h.cells, h.good, h.row.kept fun g hg => hk g (h.row.lt g hg).2 (.inr (.inl hg.symm)), L, h1, h2.kept fun m e => ?_⟩
  subst e
  exact hk m h2.lt (.inr (.inr rfl))
set_option maxRecDepth 100000 in
theorem Stab.below {w w' : World} {K : Nat} {v : Value} {b : Option Nat} {J : List Joint} (h : Stab w K v b J) (hb : Below w.heap.size w w') : Stab w' K v b J := h.kept fun k hk _ => hb.block k hk
set_option maxRecDepth 100000 in
theorem Stab.drew {w : World} {K : Nat} {v : Value} {b : Option Nat} {J : List Joint} (h : Stab w K v b J) : Stab w.drew K v b J := h.kept fun _ _ _ => rfl
set_option maxRecDepth 100000 in
theorem Stab.drewN {w : World} {K : Nat} {v : Value} {b : Option Nat} {J : List Joint} (h : Stab w K v b J) (n : Nat) : Stab (w.drewN n) K v b J := h.kept fun _ _ _ => rfl
set_option maxRecDepth 100000 in
theorem Stab.cell {w : World} {K : Nat} {v : Value} {b : Option Nat} {J : List Joint} (h : Stab w K v b J) : w.cell? ⟨K, 0, none⟩ = some v ∧ w.cell? ⟨K, 1, none⟩ = some (.map b) ∧ w.frozen? ⟨K, 0, none⟩ = false ∧ w.frozen? ⟨K, 1, none⟩ = false :=
  ⟨by rw [cell_of_row w K 0 _ 107 (0, 0) h.cells]; rfl, by rw [cell_of_row w K 1 _ 107 (0, 0) h.cells]; rfl, Lib.frozen_of_heap h.cells 0, Lib.frozen_of_heap h.cells 1⟩
set_option maxRecDepth 100000 in
theorem snew_any (w : World) : Calls Tryz.prog 28 #[] w fun e w' => e = .returned (.pointer (some ⟨w.heap.size, 0, none⟩)) ∧ w' = w.alloc (.cells #[.slice none 0 0, .map none] 107) := by
  go_enter Tryz.func28, Tryz.ntmps28
  go_wp2
  go_ret
  exact ⟨rfl, rfl⟩
set_option maxRecDepth 100000 in
theorem new_stab (w : World) : Stab (w.alloc (.cells #[.slice none 0 0, .map none] 107)) w.heap.size (.slice none 0 0) none [] :=
  ⟨heap_alloc_new w _, good_nil, ownE.nil _ _, [], mapOf_nil, rfl⟩
set_option maxRecDepth 100000 in
theorem slen_any (K : Nat) (v : Value) (b : Option Nat) (J : List Joint) (w : World) (h : Stab w K v b J) (hJ : J.length ≤ 1000000) :
    Calls Tryz.prog 101 #[.pointer (some ⟨K, 0, none⟩)] w fun e w' => e = .returned (.int .i64 ((256 + J.length : Nat) : Int)) ∧ w' = w := by
  obtain ⟨c0, _⟩ := h.cell
  obtain ⟨a, cap, rfl, _⟩ := h.row.form
  clear h
  go_enter Tryz.func101, Tryz.ntmps101
  go_wp2
  go_ret
  exact ⟨retI (by omega), rfl⟩
def jointV (p : Joint) : Value := .agg #[.string p.1, .int .i64 p.2.1, .int .i64 p.2.2]
set_option maxRecDepth 100000 in
/-- The cells of a symbol that was joined. -/
theorem Stab.at {w wr : World} {K : Nat} {b : Option Nat} {J : List Joint} {ad : Addr} {n cap : Nat} (h : Stab w K (.slice (some ad) n cap) b J) (hb : Below w.heap.size w wr) {k : Nat} (hk : k < J.length) :
    wr.cell? (ad.add (k * 3)) = some (.string J[k].1) ∧ wr.cell? ⟨(ad.add (k * 3)).block, (ad.add (k * 3)).off + 1, none⟩ = some (.int .i64 J[k].2.1) ∧ wr.cell? ⟨(ad.add (k * 3)).block, (ad.add (k * 3)).off + 2, none⟩ = some (.int .i64 J[k].2.2) := by
  have := elts_at h.row.reads hb hk
  exact ⟨this 0 _ rfl, by rw [← two_cell]; exact this 1 _ rfl, by rw [← three_cell]; exact this 2 _ rfl⟩
set_option maxRecDepth 100000 in
theorem Stab.some {w : World} {K : Nat} {b : Option Nat} {J : List Joint} {a : Option Addr} {n cap : Nat} (h : Stab w K (.slice a n cap) b J) {k : Nat} (hk : k < J.length) : ∃ ad, a = some ad := by
  obtain ⟨g, e, _⟩ := ownE_some h.row (by omega)
  exact ⟨_, e⟩
set_option maxRecDepth 100000 in
set_option maxHeartbeats 1000000 in
theorem joint_any (K : Nat) (v : Value) (b : Option Nat) (J : List Joint) (id : Int) (w : World) (h : Stab w K v b J) (hJ : J.length ≤ 1000000) (i0 : -9223372036854775808 ≤ id) (i1 : id ≤ 9223372036854775807) :
    Calls Tryz.prog 83 #[.pointer (some ⟨K, 0, none⟩), .int .i64 id] w fun e w' => e = .returned (.tuple #[jointV (jointOf J id).1, .bool (jointOf J id).2]) ∧ Below w.heap.size w w' := by
  have H := Lib.hid h
  have HA : Hid (Stab (w.alloc (.cells #[.string ⟨#[]⟩, .int .i64 0, .int .i64 0] 129)) K v b J) := Lib.hid (h.below ((Below.refl _ w).alloc (Nat.le_refl _) _))
  have HB : Hid (Below w.heap.size w (w.alloc (.cells #[.string ⟨#[]⟩, .int .i64 0, .int .i64 0] 129))) := Lib.hid ((Below.refl _ w).alloc (Nat.le_refl _) _)
  clear h
  by_cases h1 : id < 256
  · rw [joint_not (by omega)]
    go_enter Tryz.func83, Tryz.ntmps83
    go_wp2
    refine bodyPost_ret (v := .tuple #[jointV (noText, 0, 0), .bool false]) (by rw [results_cell_tmp rfl]; simp [go_sem, jointV, noText]) rfl ?_
    exact ⟨rfl, HB.out⟩
  · by_cases h2 : id < ((256 + J.length : Nat) : Int)
    · obtain ⟨k, hk⟩ : ∃ k : Nat, id - 256 = (k : Int) := ⟨(id - 256).toNat, by omega⟩
      have hkJ : k < J.length := by omega
      rw [joint_yes hkJ (by omega)]
      obtain ⟨a, cap, rfl, _⟩ := H.out.row.form
      obtain ⟨ad, rfl⟩ := H.out.some hkJ
      obtain ⟨c0, c1, c2⟩ := H.out.at HB.out hkJ
      obtain ⟨x0, _⟩ := HA.out.cell
      obtain ⟨⟨t, p, q⟩, hp⟩ : ∃ p, J[k] = p := ⟨_, rfl⟩
      rw [hp] at c0 c1 c2 ⊢
      clear hp
      go_enter Tryz.func83, Tryz.ntmps83
      go_wp2_with (go_at_call 101; refine (slen_any K _ b J _ HA.out hJ).mono ?_; rintro e w1 ⟨rfl, rfl⟩)
      refine bodyPost_ret (v := .tuple #[jointV (t, p, q), .bool true]) (by rw [results_cell_tmp rfl]; simp [go_sem, jointV]) rfl ?_
      exact ⟨rfl, (Below.refl _ w).alloc (Nat.le_refl _) _⟩
    · rw [joint_not (by omega)]
      go_enter Tryz.func83, Tryz.ntmps83
      go_wp2_with (go_at_call 101; refine (slen_any K v b J _ HA.out hJ).mono ?_; rintro e w1 ⟨rfl, rfl⟩)
      refine bodyPost_ret (v := .tuple #[jointV (noText, 0, 0), .bool false]) (by rw [results_cell_tmp rfl]; simp [go_sem, jointV, noText]) rfl ?_
      exact ⟨rfl, HB.out⟩
set_option maxRecDepth 100000 in
set_option maxHeartbeats 1000000 in
theorem text_any (K : Nat) (v : Value) (b : Option Nat) (J : List Joint) (id : Int) (w : World) (h : Stab w K v b J) (hJ : J.length ≤ 1000000) (i0 : -9223372036854775808 ≤ id) (i1 : id ≤ 9223372036854775807) :
    Calls Tryz.prog 58 #[.pointer (some ⟨K, 0, none⟩), .int .i64 id] w fun e w' => e = .returned (.tuple #[.string (txtOf J id), .bool (thereOf J id)]) ∧ Below w.heap.size w w' := by
  have H := Lib.hid h
  clear h
  by_cases h1 : id < 0
  · have ht : thereOf J id = false := by
      unfold thereOf
      rw [decide_eq_false (by omega)]; rfl
    rw [ht, txt_not ht]
    go_enter Tryz.func58, Tryz.ntmps58
    go_wp2
    go_ret2
    exact ⟨rfl, Below.refl _ _⟩
  · by_cases h2 : id < 256
    · obtain ⟨c, rfl⟩ : ∃ c : Nat, id = (c : Int) := ⟨id.toNat, by omega⟩
      have hc : c < 256 := by omega
      have ht : thereOf J (c : Int) = true := there_iff.2 ⟨by omega, by rw [texts_len]; omega⟩
      have hx : txtOf J (c : Int) = oneB c := by
        obtain ⟨h0, h1⟩ := there_iff.1 ht
        rw [txt_there h0 h1]
        exact texts_low hc (by rw [texts_len]; omega)
      rw [ht, hx]
      clear ht hx
      have hw : IntKind.u8.wrap (c : Int) = (c : Int) := by rw [IntKind.wrap_u8]; omega
      have e1 : ((UInt8.ofNat c).toNat : Int) = (c : Int) := by rw [UInt8.toNat_ofNat']; omega
      have hconv := (lit_bytes w [UInt8.ofNat c] 1 (0, 0) rfl).text
      simp only [bcells, List.map_cons, List.map_nil, e1] at hconv
      clear e1
      go_enter Tryz.func58, Tryz.ntmps58
      go_wp2
      go_ret2
      exact ⟨rfl, (Below.refl _ w).alloc (Nat.le_refl _) _⟩
    · obtain ⟨j1, j2⟩ := joint_txt (J := J) (id := id) (by omega)
      rw [← j1, ← j2]
      clear j1 j2
      have cJ := joint_any K v b J id w H.out hJ i0 i1
      obtain ⟨⟨⟨t, p, q⟩, ok⟩, hj⟩ : ∃ r, jointOf J id = r := ⟨_, rfl⟩
      rw [hj] at cJ ⊢
      clear hj
      unfold jointV at cJ
      go_enter Tryz.func58, Tryz.ntmps58
      go_wp2_with (go_at_call 83; refine cJ.mono ?_; rintro e w1 ⟨rfl, hb⟩; have HB := Lib.hid hb; clear hb)
      go_ret2
      exact ⟨rfl, HB.out.alloc HB.out.size _⟩
set_option maxRecDepth 100000 in
theorem sfind_any (K : Nat) (v : Value) (b : Option Nat) (J : List Joint) (s : ByteArray) (w : World) (h : Stab w K v b J) (hs : s.size ≤ 9223372036854775807) :
    Calls Tryz.prog 80 #[.pointer (some ⟨K, 0, none⟩), .string s] w fun e w' => e = .returned (.tuple #[.int .i64 (findOf J s).1, .bool (findOf J s).2]) ∧ w' = w := by
  obtain ⟨_, c1, _⟩ := h.cell
  obtain ⟨L, hm, hmap⟩ := h.map
  by_cases h1 : s.size = 1
  · rw [find_one h.good h1]
    have hu : (s[0]'(by omega)).toNat < 256 := UInt8.toNat_lt _
    have hl : (0 : Int) < (s.size : Int) := by omega
    have hsI : (s.size : Int) = 1 := by omega
    clear h hm hmap c1
    go_enter Tryz.func80, Tryz.ntmps80
    go_wp2
    go_ret2
    exact ⟨rfl, rfl⟩
  · rw [find_map h.good hm h1]
    have hlook := look2_run hmap s hs
    clear h hm hmap
    generalize L.any (fun p => p.1 = s) = ok at *
    generalize countOf L s = c at *
    go_enter Tryz.func80, Tryz.ntmps80
    go_wp2
    go_ret2
    exact ⟨rfl, rfl⟩
end Go.Proofs.YtnmacalbbmeedaaGreat
/- What only lays blocks; what a symbol stands for, so told; comparisons of numbers and texts. -/
namespace Go.Proofs.YtnmacalbbmeedaaGreat
open Go.RowKit Go.Maps Go.Shelf
open Go.Sort (grow grow_empty grow_grow alloc_eq_grow heap_grow_old)

def tcmpRen : Ren where
  f := fun x => match x with
    | 106 => 129
    | 213 => 150
    | 265 => 160
    | n => n
  t := fun x => x
  g := fun x => x
set_option maxRecDepth 100000 in
theorem tcmpLays : Lays.n106 Tryz.prog tcmpRen where
  mixed := by kernel_rfl
  f106 := by kernel_rfl
  f213 := by kernel_rfl
  f265 := by kernel_rfl
  t3 := by kernel_rfl
  a3 := fun w => by kernel_rfl
  z3 := fun w => by kernel_rfl
  v3 := fun w => by kernel_rfl
  t9 := by kernel_rfl
  a9 := fun w => by kernel_rfl
  z9 := fun w => by kernel_rfl
  v9 := fun w => by kernel_rfl
set_option maxRecDepth 100000 in
theorem tcompare_any (a b : ByteArray) (w : World) : Calls Tryz.prog 129 #[.string a, .string b] w fun e w' => e = .returned (.int .i64 (Lib.compareBytes (bs a) (bs b))) ∧ w' = w := Any.strings_Compare tcmpLays a b w

/-- w' is w, with some draws, and with blocks laid behind it. -/
def Grown (w w' : World) : Prop := ∃ q os, w' = grow (w.drewN q) os
set_option maxRecDepth 100000 in
theorem Grown.refl (w : World) : Grown w w := ⟨0, #[], by rw [grow_empty]; rfl⟩
set_option maxRecDepth 100000 in
theorem Grown.trans {a b c : World} (h : Grown a b) (k : Grown b c) : Grown a c := by
  obtain ⟨q, os, rfl⟩ := h
  obtain ⟨q2, os2, rfl⟩ := k
  exact ⟨q + q2, os ++ os2, by show grow (grow ((a.drewN q).drewN q2) os) os2 = _; rw [grow_grow, World.drewN_drewN]⟩
set_option maxRecDepth 100000 in
theorem Grown.alloc {a b : World} (h : Grown a b) (o : Obj) : Grown a (b.alloc o) := h.trans ⟨0, #[o], by rw [alloc_eq_grow]; rfl⟩
set_option maxRecDepth 100000 in
theorem Grown.of (w : World) (n : Nat) (os : Array Obj) : Grown w (grow (w.drewN n) os) := ⟨n, os, rfl⟩
set_option maxRecDepth 100000 in
theorem Grown.drewN {a b : World} (h : Grown a b) (n : Nat) : Grown a (b.drewN n) := h.trans ⟨n, #[], by rw [grow_empty]⟩
set_option maxRecDepth 100000 in
theorem Grown.below {a b : World} (h : Grown a b) : Below a.heap.size a b := by
  obtain ⟨q, os, rfl⟩ := h
  exact ⟨rfl, rfl, rfl, by simp [World.drewN], fun k hk => heap_grow_old _ _ hk⟩
set_option maxRecDepth 100000 in
theorem Stab.grown {w w' : World} {K : Nat} {v : Value} {b : Option Nat} {J : List Joint} (h : Stab w K v b J) (k : Grown w w') : Stab w' K v b J := h.below k.below

/-! cmp.Compare of numbers. -/
def cmpI (a b : Int) : Int := if a < b then -1 else if b < a then 1 else 0
set_option maxRecDepth 100000 in
theorem isNaN_any (a : Int) (w : World) : Calls Tryz.prog 92 #[.int .i64 a] w fun e w' => e = .returned (.bool false) ∧ w' = w := by
  go_enter Tryz.func92, Tryz.ntmps92
  go_wp2
  go_ret
  exact ⟨rfl, rfl⟩
set_option maxRecDepth 100000 in
theorem cmpI_any (a b : Int) (w : World) : Calls Tryz.prog 72 #[.int .i64 a, .int .i64 b] w fun e w' => e = .returned (.int .i64 (cmpI a b)) ∧ w' = w := by
  have c1 := isNaN_any a w
  have c2 := isNaN_any b w
  unfold cmpI
  by_cases h1 : a < b
  · rw [if_pos h1]
    go_enter Tryz.func72, Tryz.ntmps72
    go_wp2_with fail
    refine c1.mono ?_
    rintro e w1 ⟨rfl, rfl⟩
    go_wp2_with fail
    refine c2.mono ?_
    rintro e w1 ⟨rfl, rfl⟩
    go_wp2
    go_ret
    exact ⟨rfl, rfl⟩
  · rw [if_neg h1]
    by_cases h2 : b < a
    · rw [if_pos h2]
      go_enter Tryz.func72, Tryz.ntmps72
      go_wp2_with fail
      refine c1.mono ?_
      rintro e w1 ⟨rfl, rfl⟩
      go_wp2_with fail
      refine c2.mono ?_
      rintro e w1 ⟨rfl, rfl⟩
      go_wp2
      go_ret
      exact ⟨rfl, rfl⟩
    · rw [if_neg h2]
      go_enter Tryz.func72, Tryz.ntmps72
      go_wp2_with fail
      refine c1.mono ?_
      rintro e w1 ⟨rfl, rfl⟩
      go_wp2_with fail
      refine c2.mono ?_
      rintro e w1 ⟨rfl, rfl⟩
      go_wp2
      go_ret
      exact ⟨rfl, rfl⟩

/-! What a symbol stands for, once more: nothing is turned, but blocks may be laid. -/
set_option maxRecDepth 100000 in
set_option maxHeartbeats 1000000 in
theorem jointG_any (K : Nat) (v : Value) (b : Option Nat) (J : List Joint) (id : Int) (w : World) (h : Stab w K v b J) (hJ : J.length ≤ 1000000) (i0 : -9223372036854775808 ≤ id) (i1 : id ≤ 9223372036854775807) :
    Calls Tryz.prog 83 #[.pointer (some ⟨K, 0, none⟩), .int .i64 id] w fun e w' => e = .returned (.tuple #[jointV (jointOf J id).1, .bool (jointOf J id).2]) ∧ Grown w w' := by
  have H := Lib.hid h
  have HA : Hid (Stab (w.alloc (.cells #[.string ⟨#[]⟩, .int .i64 0, .int .i64 0] 129)) K v b J) := Lib.hid (h.below ((Below.refl _ w).alloc (Nat.le_refl _) _))
  have HB : Hid (Grown w (w.alloc (.cells #[.string ⟨#[]⟩, .int .i64 0, .int .i64 0] 129))) := Lib.hid ((Grown.refl w).alloc _)
  clear h
  by_cases h1 : id < 256
  · rw [joint_not (by omega)]
    go_enter Tryz.func83, Tryz.ntmps83
    go_wp2
    refine bodyPost_ret (v := .tuple #[jointV (noText, 0, 0), .bool false]) (by rw [results_cell_tmp rfl]; simp [go_sem, jointV, noText]) rfl ?_
    exact ⟨rfl, HB.out⟩
  · by_cases h2 : id < ((256 + J.length : Nat) : Int)
    · obtain ⟨k, hk⟩ : ∃ k : Nat, id - 256 = (k : Int) := ⟨(id - 256).toNat, by omega⟩
      have hkJ : k < J.length := by omega
      rw [joint_yes hkJ (by omega)]
      obtain ⟨a, cap, rfl, _⟩ := H.out.row.form
      obtain ⟨ad, rfl⟩ := H.out.some hkJ
      obtain ⟨c0, c1, c2⟩ := H.out.at HB.out.below hkJ
      obtain ⟨x0, _⟩ := HA.out.cell
      obtain ⟨⟨t, p, q⟩, hp⟩ : ∃ p, J[k] = p := ⟨_, rfl⟩
      rw [hp] at c0 c1 c2 ⊢
      clear hp
      go_enter Tryz.func83, Tryz.ntmps83
      go_wp2_with (go_at_call 101; refine (slen_any K _ b J _ HA.out hJ).mono ?_; rintro e w1 ⟨rfl, rfl⟩)
      refine bodyPost_ret (v := .tuple #[jointV (t, p, q), .bool true]) (by rw [results_cell_tmp rfl]; simp [go_sem, jointV]) rfl ?_
      exact ⟨rfl, (Grown.refl w).alloc _⟩
    · rw [joint_not (by omega)]
      go_enter Tryz.func83, Tryz.ntmps83
      go_wp2_with (go_at_call 101; refine (slen_any K v b J _ HA.out hJ).mono ?_; rintro e w1 ⟨rfl, rfl⟩)
      refine bodyPost_ret (v := .tuple #[jointV (noText, 0, 0), .bool false]) (by rw [results_cell_tmp rfl]; simp [go_sem, jointV, noText]) rfl ?_
      exact ⟨rfl, HB.out⟩
set_option maxRecDepth 100000 in
set_option maxHeartbeats 1000000 in
theorem textG_any (K : Nat) (v : Value) (b : Option Nat) (J : List Joint) (id : Int) (w : World) (h : Stab w K v b J) (hJ : J.length ≤ 1000000) (i0 : -9223372036854775808 ≤ id) (i1 : id ≤ 9223372036854775807) :
    Calls Tryz.prog 58 #[.pointer (some ⟨K, 0, none⟩), .int .i64 id] w fun e w' => e = .returned (.tuple #[.string (txtOf J id), .bool (thereOf J id)]) ∧ Grown w w' := by
  have H := Lib.hid h
  clear h
  by_cases h1 : id < 0
  · have ht : thereOf J id = false := by
      unfold thereOf
      rw [decide_eq_false (by omega)]; rfl
    rw [ht, txt_not ht]
    go_enter Tryz.func58, Tryz.ntmps58
    go_wp2
    go_ret2
    exact ⟨rfl, Grown.refl _⟩
  · by_cases h2 : id < 256
    · obtain ⟨c, rfl⟩ : ∃ c : Nat, id = (c : Int) := ⟨id.toNat, by omega⟩
      have hc : c < 256 := by omega
      have ht : thereOf J (c : Int) = true := there_iff.2 ⟨by omega, by rw [texts_len]; omega⟩
      have hx : txtOf J (c : Int) = oneB c := by
        obtain ⟨h0, h1⟩ := there_iff.1 ht
        rw [txt_there h0 h1]
        exact texts_low hc (by rw [texts_len]; omega)
      rw [ht, hx]
      clear ht hx
      have hw : IntKind.u8.wrap (c : Int) = (c : Int) := by rw [IntKind.wrap_u8]; omega
      have e1 : ((UInt8.ofNat c).toNat : Int) = (c : Int) := by rw [UInt8.toNat_ofNat']; omega
      have hconv := (lit_bytes w [UInt8.ofNat c] 1 (0, 0) rfl).text
      simp only [bcells, List.map_cons, List.map_nil, e1] at hconv
      clear e1
      go_enter Tryz.func58, Tryz.ntmps58
      go_wp2
      go_ret2
      exact ⟨rfl, (Grown.refl w).alloc _⟩
    · obtain ⟨j1, j2⟩ := joint_txt (J := J) (id := id) (by omega)
      rw [← j1, ← j2]
      clear j1 j2
      have cJ := jointG_any K v b J id w H.out hJ i0 i1
      obtain ⟨⟨⟨t, p, q⟩, ok⟩, hj⟩ : ∃ r, jointOf J id = r := ⟨_, rfl⟩
      rw [hj] at cJ ⊢
      clear hj
      unfold jointV at cJ
      go_enter Tryz.func58, Tryz.ntmps58
      go_wp2_with (go_at_call 83; refine cJ.mono ?_; rintro e w1 ⟨rfl, hb⟩; have HB := Lib.hid hb; clear hb)
      go_ret2
      exact ⟨rfl, HB.out.alloc _⟩
set_option maxRecDepth 100000 in
theorem ptext_any (K : Nat) (v : Value) (b : Option Nat) (J : List Joint) (id : Int) (w : World) (h : Stab w K v b J) (hJ : J.length ≤ 1000000) (i0 : -9223372036854775808 ≤ id) (i1 : id ≤ 9223372036854775807) :
    Calls Tryz.prog 130 #[.pointer (some ⟨K, 0, none⟩), .int .i64 id] w fun e w' => e = .returned (.string (txtOf J id)) ∧ Grown w w' := by
  have cT := textG_any K v b J id w h hJ i0 i1
  clear h
  generalize txtOf J id = t at *
  generalize thereOf J id = ok at *
  go_enter Tryz.func130, Tryz.ntmps130
  go_wp2_with fail
  refine cT.mono ?_
  rintro e w1 ⟨rfl, hg⟩
  have HG := Lib.hid hg
  clear hg
  go_wp2
  go_ret
  exact ⟨rfl, HG.out⟩

end Go.Proofs.YtnmacalbbmeedaaGreat
/- Pairs and items, compared by a table's texts. -/
namespace Go.Proofs.YtnmacalbbmeedaaGreat
open Go.RowKit Go.Maps Go.Shelf
open Go.Sort (grow grow_empty grow_grow alloc_eq_grow heap_grow_old)

/-! Pairs by their texts. -/
def FitsN (a : Int) : Prop := -9223372036854775808 ≤ a ∧ a ≤ 9223372036854775807
def tcmp (J : List Joint) (a b : Int) : Int := Lib.compareBytes (bs (txtOf J a)) (bs (txtOf J b))
def pcmp (J : List Joint) (a b : Int × Int) : Int := if tcmp J a.1 b.1 = 0 then tcmp J a.2 b.2 else tcmp J a.1 b.1
set_option maxRecDepth 100000 in
theorem pcmp_same {J : List Joint} {p q r s : Int} (h : tcmp J p r = 0) : pcmp J (p, q) (r, s) = tcmp J q s := if_pos h
set_option maxRecDepth 100000 in
theorem pcmp_other {J : List Joint} {p q r s : Int} (h : ¬ tcmp J p r = 0) : pcmp J (p, q) (r, s) = tcmp J p r := if_neg h
set_option maxRecDepth 100000 in
/-- What is called in a comparison, in any world that has grown. -/
theorem ptextG {K : Nat} {v : Value} {b : Option Nat} {J : List Joint} {wb : World} (h : Stab wb K v b J) (hJ : J.length ≤ 1000000) (id : Int) (hi : FitsN id) (n : Nat) (os : Array Obj) :
    Calls Tryz.prog 130 #[.pointer (some ⟨K, 0, none⟩), .int .i64 id] (grow (wb.drewN n) os) fun e w'' => e = .returned (.string (txtOf J id)) ∧ ∃ p : GrownBy, w'' = grow (wb.drewN p.n) p.os :=
  Calls.grown_of (ptext_any K v b J id (grow (wb.drewN n) os) (h.grown (Grown.of _ n os)) hJ hi.1 hi.2)
set_option maxRecDepth 100000 in
theorem compareG (J : List Joint) (a b : Int) (wb : World) (n : Nat) (os : Array Obj) :
    Calls Tryz.prog 129 #[.string (txtOf J a), .string (txtOf J b)] (grow (wb.drewN n) os) fun e w'' => e = .returned (.int .i64 (tcmp J a b)) ∧ ∃ p : GrownBy, w'' = grow (wb.drewN p.n) p.os :=
  (tcompare_any _ _ _).mono fun _ _ h => ⟨h.1, ⟨n, os⟩, h.2⟩
set_option maxRecDepth 100000 in
set_option maxHeartbeats 2000000 in
theorem compareTexts_any (K : Nat) (v : Value) (b : Option Nat) (J : List Joint) (p q r s : Int) (w : World) (h : Stab w K v b J) (hJ : J.length ≤ 1000000) (hp : FitsN p) (hq : FitsN q) (hr : FitsN r) (hs : FitsN s) :
    Calls Tryz.prog 113 #[.pointer (some ⟨K, 0, none⟩), .agg #[.int .i64 p, .int .i64 q], .agg #[.int .i64 r, .int .i64 s]] w fun e w' => e = .returned (.int .i64 (pcmp J (p, q) (r, s))) ∧ Grown w w' := by
  have mixed : Tryz.prog.follows .mixedOrders = true := by kernel_rfl
  obtain ⟨wb, hwb⟩ : ∃ wb, wb = (w.alloc (.cells #[.int .i64 p, .int .i64 q] 77)).alloc (.cells #[.int .i64 r, .int .i64 s] 77) := ⟨_, rfl⟩
  have HGB : Hid (Grown w wb) := Lib.hid (by rw [hwb]; exact ((Grown.refl w).alloc _).alloc _)
  have hB := h.grown HGB.out
  have hsz : wb.heap.size = w.heap.size + 2 := by rw [hwb, World.size_alloc, World.size_alloc]
  have x0 : wb.cell? ⟨w.heap.size, 0, none⟩ = some (.int .i64 p) := by rw [hwb]; simp
  have x1 : wb.cell? ⟨w.heap.size, 1, none⟩ = some (.int .i64 q) := by rw [hwb]; simp
  have y0 : wb.cell? ⟨w.heap.size + 1, 0, none⟩ = some (.int .i64 r) := by rw [hwb]; simp
  have y1 : wb.cell? ⟨w.heap.size + 1, 1, none⟩ = some (.int .i64 s) := by rw [hwb]; simp
  have z0 := fun n os => cell_grown (by show w.heap.size < _; omega) x0 n os
  have z1 := fun n os => cell_grown (by show w.heap.size + 1 < _; omega) y0 n os
  have HX : Hid (∀ n os, (grow (wb.drewN n) os).cell? ⟨w.heap.size, 1, none⟩ = some (.int .i64 q) ∧ (grow (wb.drewN n) os).cell? ⟨w.heap.size + 1, 1, none⟩ = some (.int .i64 s)) := Lib.hid fun n os => ⟨cell_grown (by show w.heap.size < _; omega) x1 n os, cell_grown (by show w.heap.size + 1 < _; omega) y1 n os⟩
  have HB := Lib.hid hB
  clear h hB x0 x1 y0 y1 hsz
  by_cases hc : tcmp J p r = 0
  · rw [pcmp_same hc]
    have HC := Lib.hid hc
    clear hc
    go_enter Tryz.func113, Tryz.ntmps113
    go_wp2_with fail
    rw [← hwb]
    clear hwb
    go_quiet_grown (first | (go_at_call 130; refine ptextG HB.out hJ _ (by assumption) _ _) | (go_at_call 129; refine compareG J p r wb _ _))
    rw [HC.out]
    obtain ⟨w2, hw2⟩ : ∃ w2, w2 = grow (wb.drewN nq) osq := ⟨_, rfl⟩
    have HG2 : Hid (Grown w w2) := Lib.hid (by rw [hw2]; exact HGB.out.trans (Grown.of _ _ _))
    have HB2 : Hid (Stab w2 K v b J) := Lib.hid (by rw [hw2]; exact HB.out.grown (Grown.of _ _ _))
    have u0 : ∀ n os, (grow (w2.drewN n) os).cell? ⟨w.heap.size, 1, none⟩ = some (.int .i64 q) := fun n os => by
      obtain ⟨n2, os2, e⟩ := (show Grown wb (grow (w2.drewN n) os) from by rw [hw2]; exact (Grown.of _ _ _).trans (Grown.of _ _ _))
      rw [e]; exact (HX.out n2 os2).1
    have u1 : ∀ n os, (grow (w2.drewN n) os).cell? ⟨w.heap.size + 1, 1, none⟩ = some (.int .i64 s) := fun n os => by
      obtain ⟨n2, os2, e⟩ := (show Grown wb (grow (w2.drewN n) os) from by rw [hw2]; exact (Grown.of _ _ _).trans (Grown.of _ _ _))
      rw [e]; exact (HX.out n2 os2).2
    rw [← hw2]
    clear hw2 z0 z1
    go_wp2_with fail
    go_quiet_grown (first | (go_at_call 130; refine ptextG HB2.out hJ _ (by assumption) _ _) | (go_at_call 129; refine compareG J q s w2 _ _))
    go_wp2
    go_ret
    exact ⟨rfl, HG2.out.trans (Grown.of _ _ _)⟩
  · rw [pcmp_other hc]
    go_enter Tryz.func113, Tryz.ntmps113
    go_wp2_with fail
    rw [← hwb]
    clear hwb
    go_quiet_grown (first | (go_at_call 130; refine ptextG HB.out hJ _ (by assumption) _ _) | (go_at_call 129; refine compareG J p r wb _ _))
    go_wp2
    go_ret
    exact ⟨rfl, HGB.out.trans (Grown.of _ _ _)⟩
end Go.Proofs.YtnmacalbbmeedaaGreat
/- Items: pairs with counts; which one is better. -/
namespace Go.Proofs.YtnmacalbbmeedaaGreat
open Go.RowKit Go.Maps Go.Shelf
open Go.Sort (grow grow_empty grow_grow alloc_eq_grow heap_grow_old)

abbrev Item := Int × Int × Int
def itemV (x : Item) : Value := .agg #[.int .i64 x.1, .int .i64 x.2.1, .int .i64 x.2.2]
def FitsI (x : Item) : Prop := FitsN x.1 ∧ FitsN x.2.1 ∧ FitsN x.2.2
/-- Below 0: x is better than y. -/
def icmp (J : List Joint) (x y : Item) : Int := if cmpI y.2.2 x.2.2 = 0 then pcmp J (x.1, x.2.1) (y.1, y.2.1) else cmpI y.2.2 x.2.2
set_option maxRecDepth 100000 in
theorem icmp_same {J : List Joint} {a b c p q r : Int} (h : cmpI r c = 0) : icmp J (a, b, c) (p, q, r) = pcmp J (a, b) (p, q) := if_pos h
set_option maxRecDepth 100000 in
theorem icmp_other {J : List Joint} {a b c p q r : Int} (h : ¬ cmpI r c = 0) : icmp J (a, b, c) (p, q, r) = cmpI r c := if_neg h
/-- A table, and the box that a function of items reads it from. -/
structure Env (w : World) (K : Nat) (v : Value) (b : Option Nat) (J : List Joint) (c : Nat) : Prop where
  tab : Stab w K v b J
  box : w.heap[c]? = some (.cells #[.pointer (some ⟨K, 0, none⟩)] 66 (0, 0))
  few : J.length ≤ 1000000
set_option maxRecDepth 100000 in
theorem Env.kept {w w' : World} {K c : Nat} {v : Value} {b : Option Nat} {J : List Joint} (h : Env w K v b J c) (hk : ∀ k, k < w.heap.size → mineT K v b k ∨ k = c → w'.heap[k]? = w.heap[k]?) : Env w' K v b J c :=
  ⟨h.tab.kept fun k h1 h2 => hk k h1 (.inl h2), (hk c (Array.getElem?_eq_some_iff.1 h.box).1 (.inr rfl)).trans h.box, h.few⟩
set_option maxRecDepth 100000 in
theorem Env.grown {w w' : World} {K c : Nat} {v : Value} {b : Option Nat} {J : List Joint} (h : Env w K v b J c) (k : Grown w w') : Env w' K v b J c := h.kept fun i hi _ => k.below.block i hi
set_option maxRecDepth 100000 in
theorem Env.cell {w : World} {K c : Nat} {v : Value} {b : Option Nat} {J : List Joint} (h : Env w K v b J c) : w.cell? ⟨c, 0, none⟩ = some (.pointer (some ⟨K, 0, none⟩)) := by
  rw [cell_of_row w c 0 _ 66 (0, 0) h.box]; rfl
set_option maxRecDepth 100000 in
set_option maxHeartbeats 2000000 in
theorem icmp_any (K : Nat) (v : Value) (b : Option Nat) (J : List Joint) (c : Nat) (x y : Item) (w : World) (h : Env w K v b J c) (hx : FitsI x) (hy : FitsI y) :
    Calls Tryz.prog 112 #[itemV x, itemV y, .pointer (some ⟨c, 0, none⟩)] w fun e w' => e = .returned (.int .i64 (icmp J x y)) ∧ Grown w w' := by
  obtain ⟨p, q, n⟩ := x
  obtain ⟨r, s, m⟩ := y
  obtain ⟨x1, x2, x3⟩ := hx
  obtain ⟨y1, y2, y3⟩ := hy
  simp only at x1 x2 x3 y1 y2 y3
  unfold itemV
  simp only
  obtain ⟨wb, hwb⟩ : ∃ wb, wb = (w.alloc (.cells #[.int .i64 p, .int .i64 q, .int .i64 n] 79)).alloc (.cells #[.int .i64 r, .int .i64 s, .int .i64 m] 79) := ⟨_, rfl⟩
  have HGB : Hid (Grown w wb) := Lib.hid (by rw [hwb]; exact ((Grown.refl w).alloc _).alloc _)
  have hB := h.grown HGB.out
  have cI := cmpI_any m n wb
  have cT := compareTexts_any K v b J p q r s wb hB.tab hB.few x1 x2 y1 y2
  have cb := hB.cell
  have u0 : wb.cell? ⟨w.heap.size, 0, none⟩ = some (.int .i64 p) := by rw [hwb]; simp
  have u1 : wb.cell? ⟨w.heap.size, 1, none⟩ = some (.int .i64 q) := by rw [hwb]; simp
  have u2 : wb.cell? ⟨w.heap.size, 2, none⟩ = some (.int .i64 n) := by rw [hwb]; simp
  have v0 : wb.cell? ⟨w.heap.size + 1, 0, none⟩ = some (.int .i64 r) := by rw [hwb]; simp
  have v1 : wb.cell? ⟨w.heap.size + 1, 1, none⟩ = some (.int .i64 s) := by rw [hwb]; simp
  have v2 : wb.cell? ⟨w.heap.size + 1, 2, none⟩ = some (.int .i64 m) := by rw [hwb]; simp
  have hw' := hwb.symm
  clear h hB hwb x1 x2 x3 y1 y2 y3
  by_cases hc : cmpI m n = 0
  · rw [icmp_same hc]
    rw [hc] at cI
    clear hc
    generalize pcmp J (p, q) (r, s) = z at *
    go_enter Tryz.func112, Tryz.ntmps112
    go_wp2_with fail
    refine cI.mono ?_
    rintro e w1 ⟨rfl, rfl⟩
    go_wp2_with fail
    refine cT.mono ?_
    rintro e w2 ⟨rfl, hg⟩
    have HG := Lib.hid hg
    clear hg
    go_wp2
    go_ret
    exact ⟨rfl, HGB.out.trans HG.out⟩
  · rw [icmp_other hc]
    generalize cmpI m n = z at *
    clear cT
    go_enter Tryz.func112, Tryz.ntmps112
    go_wp2_with fail
    refine cI.mono ?_
    rintro e w1 ⟨rfl, rfl⟩
    go_wp2
    go_ret
    exact ⟨rfl, HGB.out⟩
def closV (c : Nat) : Value := .func (.func 112) #[] #[.pointer (some ⟨c, 0, none⟩)]
set_option maxRecDepth 100000 in
theorem betterFirst_any (K : Nat) (w : World) : Calls Tryz.prog 91 #[.pointer (some ⟨K, 0, none⟩)] w fun e w' => e = .returned (closV w.heap.size) ∧ w' = w.alloc (.cells #[.pointer (some ⟨K, 0, none⟩)] 66) := by
  go_enter Tryz.func91, Tryz.ntmps91
  go_wp2
  go_ret
  exact ⟨rfl, rfl⟩
set_option maxRecDepth 100000 in
theorem env_new {w : World} {K : Nat} {v : Value} {b : Option Nat} {J : List Joint} (h : Stab w K v b J) (hJ : J.length ≤ 1000000) : Env (w.alloc (.cells #[.pointer (some ⟨K, 0, none⟩)] 66)) K v b J w.heap.size :=
  ⟨h.grown ((Grown.refl w).alloc _), heap_alloc_new w _, hJ⟩
/-- Is x better than y? -/
def betterOf (J : List Joint) (x y : Item) : Bool := decide (icmp J x y < 0)
def aheadOf (J : List Joint) (a b : Int × Int) : Bool := decide (pcmp J a b < 0)
end Go.Proofs.YtnmacalbbmeedaaGreat
