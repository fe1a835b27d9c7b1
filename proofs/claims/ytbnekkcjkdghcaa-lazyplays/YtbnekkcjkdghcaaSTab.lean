/- A table of symbols (sym): its memory, New, Len, how one was made, Text, Pair, Find. -/
import Derived.Test.YtbnekkcjkdghcaaElts
import Derived.Test.YtbnekkcjkdghcaaSym
import Derived.Test.YtbnekkcjkdghcaaMapSI
import Derived.Laws.ResultCell
namespace Go.Proofs.Ytbnekkcjkdghcaa
open Go.RowKit Go.Maps

def jointE : Elt Joint where
  ty := 111
  sl := 67
  n := 3
  bytes := 32
  zero := .agg #[.string ⟨#[]⟩, .int .i64 0, .int .i64 0]
  enc := fun p => [.string p.1, .int .i64 p.2.1, .int .i64 p.2.2]
  under := Try.underlying67
  info := by kernel_rfl
  pos := by decide
  small := by decide
  zlen := by kernel_rfl
  len := fun _ => rfl
  one := fun x u hu => by
    simp only [List.mem_cons, List.not_mem_nil, or_false] at hu
    rcases hu with rfl | rfl | rfl <;> rfl
/-- The table in block K, whose joined symbols lie in v and whose map is b, has the symbols J. -/
structure Stab (w : World) (K : Nat) (v : Value) (b : Option Nat) (J : List Joint) : Prop where
  cells : w.heap[K]? = some (.cells #[v, .map b] 70 (0, 0))
  good : Good J
  row : ownE jointE w 0 v J
  map : ∃ L, MapOf J L ∧ mapIs w b L
/-- The blocks of a table. -/
def mineT (K : Nat) (v : Value) (b : Option Nat) (k : Nat) : Prop := k = K ∨ some k = v.ownBlock ∨ some k = b
set_option maxRecDepth 100000 in
theorem Stab.lt {w : World} {K : Nat} {v : Value} {b : Option Nat} {J : List Joint} (h : Stab w K v b J) : ∀ k, mineT K v b k → k < w.heap.size := by
  rintro k (rfl | e | e)
  · exact (Array.getElem?_eq_some_iff.1 h.cells).1
  · exact (h.row.lt k e.symm).2
  · obtain ⟨L, _, hm⟩ := h.map
    rw [← e] at hm
    exact hm.lt
set_option maxRecDepth 100000 in
theorem Stab.kept {w w' : World} {K : Nat} {v : Value} {b : Option Nat} {J : List Joint} (h : Stab w K v b J) (hk : ∀ k, k < w.heap.size → mineT K v b k → w'.heap[k]? = w.heap[k]?) : Stab w' K v b J := by
  obtain ⟨L, h1, h2⟩ := h.map
  refine ⟨(hk K (h.lt K (.inl rfl)) (.inl rfl)).trans h.cells, h.good, h.row.kept fun g hg => hk g (h.row.lt g hg).2 (.inr (.inl hg.symm)), L, h1, h2.kept fun m e => ?_⟩
  subst e
  exact hk m h2.lt (.inr (.inr rfl))
set_option maxRecDepth 100000 in
theorem Stab.below {w w' : World} {K : Nat} {v : Value} {b : Option Nat} {J : List Joint} (h : Stab w K v b J) (hb : Below w.heap.size w w') : Stab w' K v b J := h.kept fun k hk _ => hb.block k hk
set_option maxRecDepth 100000 in
theorem Stab.drew {w : World} {K : Nat} {v : Value} {b : Option Nat} {J : List Joint} (h : Stab w K v b J) : Stab w.drew K v b J := h.kept fun _ _ _ => rfl
set_option maxRecDepth 100000 in
theorem Stab.drewN {w : World} {K : Nat} {v : Value} {b : Option Nat} {J : List Joint} (h : Stab w K v b J) (n : Nat) : Stab (w.drewN n) K v b J := h.kept fun _ _ _ => rfl
set_option maxRecDepth 100000 in
theorem Stab.cell {w : World} {K : Nat} {v : Value} {b : Option Nat} {J : List Joint} (h : Stab w K v b J) : w.cell? ⟨K, 0, none⟩ = some v ∧ w.cell? ⟨K, 1, none⟩ = some (.map b) ∧ w.frozen? ⟨K, 0, none⟩ = false ∧ w.frozen? ⟨K, 1, none⟩ = false :=
  ⟨by rw [cell_of_row w K 0 _ 70 (0, 0) h.cells]; rfl, by rw [cell_of_row w K 1 _ 70 (0, 0) h.cells]; rfl, Lib.frozen_of_heap h.cells 0, Lib.frozen_of_heap h.cells 1⟩
set_option maxRecDepth 100000 in
theorem snew_any (w : World) : Calls Try.prog 8 #[] w fun e w' => e = .returned (.pointer (some ⟨w.heap.size, 0, none⟩)) ∧ w' = w.alloc (.cells #[.slice none 0 0, .map none] 70) := by
  go_enter Try.func8, Try.ntmps8
  go_wp2
  go_ret
  exact ⟨rfl, rfl⟩
set_option maxRecDepth 100000 in
theorem new_stab (w : World) : Stab (w.alloc (.cells #[.slice none 0 0, .map none] 70)) w.heap.size (.slice none 0 0) none [] :=
  ⟨heap_alloc_new w _, good_nil, ownE.nil _ _, [], mapOf_nil, rfl⟩
set_option maxRecDepth 100000 in
theorem slen_any (K : Nat) (v : Value) (b : Option Nat) (J : List Joint) (w : World) (h : Stab w K v b J) (hJ : J.length ≤ 1000000) :
    Calls Try.prog 64 #[.pointer (some ⟨K, 0, none⟩)] w fun e w' => e = .returned (.int .i64 ((256 + J.length : Nat) : Int)) ∧ w' = w := by
  obtain ⟨c0, _⟩ := h.cell
  obtain ⟨a, cap, rfl, _⟩ := h.row.form
  clear h
  go_enter Try.func64, Try.ntmps64
  go_wp2
  go_ret
  exact ⟨retI (by omega), rfl⟩
set_option maxRecDepth 100000 in
theorem slen_nil (w : World) : Calls Try.prog 64 #[.pointer none] w fun e w' => e = .returned (.int .i64 0) ∧ w' = w := by
  go_enter Try.func64, Try.ntmps64
  go_wp2
  go_ret
  exact ⟨rfl, rfl⟩
def jointV (p : Joint) : Value := .agg #[.string p.1, .int .i64 p.2.1, .int .i64 p.2.2]
set_option maxRecDepth 100000 in
/-- The cells of a symbol that was joined. -/
theorem Stab.at {w wr : World} {K : Nat} {b : Option Nat} {J : List Joint} {ad : Addr} {n cap : Nat} (h : Stab w K (.slice (some ad) n cap) b J) (hb : Below w.heap.size w wr) {k : Nat} (hk : k < J.length) :
    wr.cell? (ad.add (k * 3)) = some (.string J[k].1) ∧ wr.cell? ⟨(ad.add (k * 3)).block, (ad.add (k * 3)).off + 1, none⟩ = some (.int .i64 J[k].2.1) ∧ wr.cell? ⟨(ad.add (k * 3)).block, (ad.add (k * 3)).off + 2, none⟩ = some (.int .i64 J[k].2.2) := by
  have := elts_at h.row.reads hb hk
  exact ⟨this 0 _ rfl, by rw [← two_cell]; exact this 1 _ rfl, by rw [← three_cell]; exact this 2 _ rfl⟩
set_option maxRecDepth 100000 in
theorem Stab.some {w : World} {K : Nat} {b : Option Nat} {J : List Joint} {a : Option Addr} {n cap : Nat} (h : Stab w K (.slice a n cap) b J) {k : Nat} (hk : k < J.length) : ∃ ad, a = some ad := by
  obtain ⟨g, e, _⟩ := ownE_some h.row (by omega)
  exact ⟨_, e⟩
set_option maxRecDepth 100000 in
set_option maxHeartbeats 1000000 in
theorem joint_any (K : Nat) (v : Value) (b : Option Nat) (J : List Joint) (id : Int) (w : World) (h : Stab w K v b J) (hJ : J.length ≤ 1000000) (i0 : -9223372036854775808 ≤ id) (i1 : id ≤ 9223372036854775807) :
    Calls Try.prog 60 #[.pointer (some ⟨K, 0, none⟩), .int .i64 id] w fun e w' => e = .returned (.tuple #[jointV (jointOf J id).1, .bool (jointOf J id).2]) ∧ Below w.heap.size w w' := by
  have H := Lib.hid h
  have HA : Hid (Stab (w.alloc (.cells #[.string ⟨#[]⟩, .int .i64 0, .int .i64 0] 111)) K v b J) := Lib.hid (h.below ((Below.refl _ w).alloc (Nat.le_refl _) _))
  have HB : Hid (Below w.heap.size w (w.alloc (.cells #[.string ⟨#[]⟩, .int .i64 0, .int .i64 0] 111))) := Lib.hid ((Below.refl _ w).alloc (Nat.le_refl _) _)
  clear h
  by_cases h1 : id < 256
  · rw [joint_not (by omega)]
    go_enter Try.func60, Try.ntmps60
    go_wp2
    refine bodyPost_ret (v := .tuple #[jointV (noText, 0, 0), .bool false]) (by rw [results_cell_tmp rfl]; simp [go_sem, jointV, noText]) rfl ?_
    exact ⟨rfl, HB.out⟩
  · by_cases h2 : id < ((256 + J.length : Nat) : Int)
    · obtain ⟨k, hk⟩ : ∃ k : Nat, id - 256 = (k : Int) := ⟨(id - 256).toNat, by omega⟩
      have hkJ : k < J.length := by omega
      rw [joint_yes hkJ (by omega)]
      obtain ⟨a, cap, rfl, _⟩ := H.out.row.form
      obtain ⟨ad, rfl⟩ := H.out.some hkJ
      obtain ⟨c0, c1, c2⟩ := H.out.at HB.out hkJ
      obtain ⟨x0, _⟩ := HA.out.cell
      obtain ⟨⟨t, p, q⟩, hp⟩ : ∃ p, J[k] = p := ⟨_, rfl⟩
      rw [hp] at c0 c1 c2 ⊢
      clear hp
      go_enter Try.func60, Try.ntmps60
      go_wp2_with (go_at_call 64; refine (slen_any K _ b J _ HA.out hJ).mono ?_; rintro e w1 ⟨rfl, rfl⟩)
      refine bodyPost_ret (v := .tuple #[jointV (t, p, q), .bool true]) (by rw [results_cell_tmp rfl]; simp [go_sem, jointV]) rfl ?_
      exact ⟨rfl, (Below.refl _ w).alloc (Nat.le_refl _) _⟩
    · rw [joint_not (by omega)]
      go_enter Try.func60, Try.ntmps60
      go_wp2_with (go_at_call 64; refine (slen_any K v b J _ HA.out hJ).mono ?_; rintro e w1 ⟨rfl, rfl⟩)
      refine bodyPost_ret (v := .tuple #[jointV (noText, 0, 0), .bool false]) (by rw [results_cell_tmp rfl]; simp [go_sem, jointV, noText]) rfl ?_
      exact ⟨rfl, HB.out⟩
set_option maxRecDepth 100000 in
theorem joint_nil (id : Int) (w : World) (i0 : -9223372036854775808 ≤ id) (i1 : id ≤ 9223372036854775807) : Calls Try.prog 60 #[.pointer none, .int .i64 id] w fun e w' => e = .returned (.tuple #[jointV (noText, 0, 0), .bool false]) ∧ Below w.heap.size w w' := by
  have HB : Hid (Below w.heap.size w (w.alloc (.cells #[.string ⟨#[]⟩, .int .i64 0, .int .i64 0] 111))) := Lib.hid ((Below.refl _ w).alloc (Nat.le_refl _) _)
  by_cases h1 : id < 256
  · go_enter Try.func60, Try.ntmps60
    go_wp2
    refine bodyPost_ret (v := .tuple #[jointV (noText, 0, 0), .bool false]) (by rw [results_cell_tmp rfl]; simp [go_sem, jointV, noText]) rfl ?_
    exact ⟨rfl, HB.out⟩
  · go_enter Try.func60, Try.ntmps60
    go_wp2_with (go_at_call 64; refine (slen_nil _).mono ?_; rintro e w1 ⟨rfl, rfl⟩)
    refine bodyPost_ret (v := .tuple #[jointV (noText, 0, 0), .bool false]) (by rw [results_cell_tmp rfl]; simp [go_sem, jointV, noText]) rfl ?_
    exact ⟨rfl, HB.out⟩
set_option maxRecDepth 100000 in
theorem text_nil (id : Int) (w : World) : Calls Try.prog 52 #[.pointer none, .int .i64 id] w fun e w' => e = .returned (.tuple #[.string noText, .bool false]) ∧ w' = w := by
  go_enter Try.func52, Try.ntmps52
  go_wp2
  go_ret2
  exact ⟨rfl, rfl⟩
set_option maxRecDepth 100000 in
set_option maxHeartbeats 1000000 in
theorem text_any (K : Nat) (v : Value) (b : Option Nat) (J : List Joint) (id : Int) (w : World) (h : Stab w K v b J) (hJ : J.length ≤ 1000000) (i0 : -9223372036854775808 ≤ id) (i1 : id ≤ 9223372036854775807) :
    Calls Try.prog 52 #[.pointer (some ⟨K, 0, none⟩), .int .i64 id] w fun e w' => e = .returned (.tuple #[.string (txtOf J id), .bool (thereOf J id)]) ∧ Below w.heap.size w w' := by
  have H := Lib.hid h
  clear h
  by_cases h1 : id < 0
  · have ht : thereOf J id = false := by
      unfold thereOf
      rw [decide_eq_false (by omega)]; rfl
    rw [ht, txt_not ht]
    go_enter Try.func52, Try.ntmps52
    go_wp2
    go_ret2
    exact ⟨rfl, Below.refl _ _⟩
  · by_cases h2 : id < 256
    · obtain ⟨c, rfl⟩ : ∃ c : Nat, id = (c : Int) := ⟨id.toNat, by omega⟩
      have hc : c < 256 := by omega
      have ht : thereOf J (c : Int) = true := there_iff.2 ⟨by omega, by rw [texts_len]; omega⟩
      have hx : txtOf J (c : Int) = oneB c := by
        obtain ⟨h0, h1⟩ := there_iff.1 ht
        rw [txt_there h0 h1]
        exact texts_low hc (by rw [texts_len]; omega)
      rw [ht, hx]
      clear ht hx
      have hw : IntKind.u8.wrap (c : Int) = (c : Int) := by rw [IntKind.wrap_u8]; omega
      have e1 : ((UInt8.ofNat c).toNat : Int) = (c : Int) := by rw [UInt8.toNat_ofNat']; omega
      have hconv := (lit_bytes w [UInt8.ofNat c] 1 (0, 0) rfl).text
      simp only [bcells, List.map_cons, List.map_nil, e1] at hconv
      clear e1
      go_enter Try.func52, Try.ntmps52
      go_wp2
      go_ret2
      exact ⟨rfl, (Below.refl _ w).alloc (Nat.le_refl _) _⟩
    · obtain ⟨j1, j2⟩ := joint_txt (J := J) (id := id) (by omega)
      rw [← j1, ← j2]
      clear j1 j2
      have cJ := joint_any K v b J id w H.out hJ i0 i1
      obtain ⟨⟨⟨t, p, q⟩, ok⟩, hj⟩ : ∃ r, jointOf J id = r := ⟨_, rfl⟩
      rw [hj] at cJ ⊢
      clear hj
      unfold jointV at cJ
      go_enter Try.func52, Try.ntmps52
      go_wp2_with (go_at_call 60; refine cJ.mono ?_; rintro e w1 ⟨rfl, hb⟩; have HB := Lib.hid hb; clear hb)
      go_ret2
      exact ⟨rfl, HB.out.alloc HB.out.size _⟩
def pairV (p : Joint × Bool) : Value := .tuple #[.agg #[.int .i64 p.1.2.1, .int .i64 p.1.2.2], .bool p.2]
set_option maxRecDepth 100000 in
/-- What is behind the call of joint in Pair. -/
theorem pair_box {w1 : World} {g : Nat} {p q : Int} {o : Obj} (hh : w1.heap[g]? = some (.cells #[.int .i64 0, .int .i64 0] 41 (0, 0))) :
    (((w1.setCell ⟨g, 0, none⟩ (.int .i64 p)).setCell ⟨g, 1, none⟩ (.int .i64 q)).alloc o).cell? ⟨g, 0, none⟩ = some (.int .i64 p) ∧
    (((w1.setCell ⟨g, 0, none⟩ (.int .i64 p)).setCell ⟨g, 1, none⟩ (.int .i64 q)).alloc o).cell? ⟨g, 1, none⟩ = some (.int .i64 q) := by
  have h1 := heap_setCell_at (i := 1) (heap_setCell_at (i := 0) hh (.int .i64 p)) (.int .i64 q)
  have h2 := (Below.heap_alloc _ o g (Array.getElem?_eq_some_iff.1 h1).1).trans h1
  exact ⟨by rw [cell_of_row _ g 0 _ 41 (0, 0) h2]; rfl, by rw [cell_of_row _ g 1 _ 41 (0, 0) h2]; rfl⟩
end Go.Proofs.Ytbnekkcjkdghcaa
