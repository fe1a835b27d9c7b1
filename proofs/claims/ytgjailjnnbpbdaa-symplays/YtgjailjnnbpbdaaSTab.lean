/- A table of symbols: its memory, New, Len, how one was made, Text, Pair, Find. -/
import Derived.Test.YtgjailjnnbpbdaaSRow
import Derived.Test.YtgjailjnnbpbdaaSym
import Derived.Maps.RangeWalk
import Derived.Maps.OwnOps
import Derived.Maps.OwnSet
import Derived.Laws.ResultCell
namespace Go.Proofs.Ytgjailjnnbpbdaa
open Go.RowKit Go.Maps

def pairE : Elt (Int × Int) where
  ty := 32
  sl := 22
  n := 2
  bytes := 16
  zero := .agg #[.int .i64 0, .int .i64 0]
  enc := fun p => [.int .i64 p.1, .int .i64 p.2]
  under := Try.underlying22
  info := by kernel_rfl
  pos := by decide
  small := by decide
  zlen := by kernel_rfl
  len := fun _ => rfl
  one := fun x u hu => by
    simp only [List.mem_cons, List.not_mem_nil, or_false] at hu
    rcases hu with rfl | rfl <;> rfl
def mergeE : Elt (ByteArray × ByteArray) where
  ty := 63
  sl := 47
  n := 2
  bytes := 32
  zero := .agg #[.string ⟨#[]⟩, .string ⟨#[]⟩]
  enc := fun p => [.string p.1, .string p.2]
  under := Try.underlying47
  info := by kernel_rfl
  pos := by decide
  small := by decide
  zlen := by kernel_rfl
  len := fun _ => rfl
  one := fun x u hu => by
    simp only [List.mem_cons, List.not_mem_nil, or_false] at hu
    rcases hu with rfl | rfl <;> rfl
def jointE : Elt Joint where
  ty := 59
  sl := 51
  n := 3
  bytes := 32
  zero := .agg #[.string ⟨#[]⟩, .int .i64 0, .int .i64 0]
  enc := fun p => [.string p.1, .int .i64 p.2.1, .int .i64 p.2.2]
  under := Try.underlying51
  info := by kernel_rfl
  pos := by decide
  small := by decide
  zlen := by kernel_rfl
  len := fun _ => rfl
  one := fun x u hu => by
    simp only [List.mem_cons, List.not_mem_nil, or_false] at hu
    rcases hu with rfl | rfl | rfl <;> rfl
theorem law9 : Keyed Try.prog 9 := string_keyed Try.underlying9
theorem zero3 (w : World) : (zeroValue 3).run Try.prog w = .ok (.int .i64 0) w := by kernel_rfl
/-- Block m, if any, is a map of the words L. -/
def mapIs (w : World) (b : Option Nat) (L : Bag) : Prop :=
  match b with
  | none => L = []
  | some m => w.ownsMap Try.prog 9 (plainElem Try.prog 3) m L.length (bagD L)
theorem mapIs.kept {w w' : World} {b : Option Nat} {L : Bag} (h : mapIs w b L) (hk : ∀ m, b = some m → w'.heap[m]? = w.heap[m]?) : mapIs w' b L := by
  cases b with
  | none => exact h
  | some m =>
    obtain ⟨es, clock, hb, rest⟩ := h
    exact ⟨es, clock, (hk m rfl).trans hb, rest⟩
theorem mapIs.lt {w : World} {m : Nat} {L : Bag} (h : mapIs w (some m) L) : m < w.heap.size := World.ownsMap.lt h
theorem mapIs.block {w : World} {m : Nat} {L : Bag} (h : mapIs w (some m) L) : ∃ es clock, w.heap[m]? = some (.map es clock) := by
  obtain ⟨es, clock, hb, _⟩ := h
  exact ⟨es, clock, hb⟩
theorem tight {w : World} {m n : Nat} {L : Bag} (h : w.ownsMap Try.prog 9 (plainElem Try.prog 3) m n (bagD L)) : w.ownsMap Try.prog 9 (plainElem Try.prog 3) m L.length (bagD L) := by
  obtain ⟨es, clock, hb, F, hs, hD⟩ := h
  refine ⟨es, clock, hb, F, ?_, hD⟩
  have e : ents L = (es.toList.map (WideElems.rg Try.prog 9 (plainElem Try.prog 3))).foldr DataW.insert [] := by
    unfold bagD at hD
    injection hD
  have := congrArg List.length e
  rw [length_sorted] at this
  simp [ents] at this
  omega
theorem has_any (L : Bag) (s : ByteArray) : Maps.has (bagD L) (.string (bs s)) = L.any (fun p => p.1 = s) := by
  unfold bagD
  rw [Maps.has_eq]
  unfold ents
  rw [List.any_map]
  congr 1
  funext p
  simp only [Function.comp, Lit.sameKey]
  by_cases e : p.1 = s
  · simp [e]
  · simp only [e, decide_false]
    exact beq_eq_false_iff_ne.2 fun k => e (bs_inj k)
/-- 'v, ok := m[s]'. -/
theorem look2_run {w : World} {b : Option Nat} {L : Bag} (h : mapIs w b L) (s : ByteArray) (hs : s.size ≤ 9223372036854775807) : (Instr.lookup 52 (.map b) (.string s) true).run Try.prog w = .ok (.tuple #[.int .i64 (countOf L s), .bool (L.any (fun p => p.1 = s))]) w := by
  have hkey := Go.WideMaps.keyOf_string_mk (P := Try.prog) Try.underlying9 (s := s) (by unfold maxLen; exact hs)
  cases b with
  | none =>
    have e : L = [] := h
    subst e
    exact look_nil true law9 Try.underlying52 (zero3 w) hkey
  | some m =>
    obtain ⟨v, ps, hrun, hv⟩ := World.ownsMap.look_ok h law9 Try.underlying52 (zero3 w) (plainElem_int (H := Unit) Try.underlying3 (a := 0) (by decide)) hkey
    obtain ⟨c, rfl, hz, _⟩ := plainElem_int_inv Try.underlying3 hv
    have hat : (bagD L).atKey (.string (bs s)) (.lit (.int .i64 0)) = .lit (.int .i64 c) := congrArg Prod.fst hz
    rw [atKey_count] at hat
    simp only [DataW.lit.injEq, Lit.int.injEq, true_and] at hat
    rw [hrun, hat]
    congr 3
    rw [← has_any]
theorem put_run {w : World} {m : Nat} {L : Bag} (h : mapIs w (some m) L) (hr : Rising L) (s : ByteArray) (c : Int) (hs : s.size ≤ 9223372036854775807) (hl : L.length ≤ 1048576) (c0 : 0 ≤ c) (c1 : c ≤ 9223372036854775807) :
    ∃ w', (Instr.mapUpdate 52 (.map (some m)) (.string s) (.int .i64 c)).run Try.prog w = .ok () w' ∧ mapIs w' (some m) (putW s c L) ∧ w.grownBy w' (some m) := by
  have hkey := Go.WideMaps.keyOf_string_mk (P := Try.prog) Try.underlying9 (s := s) (by unfold maxLen; exact hs)
  obtain ⟨w', hrun, hown, hg⟩ := World.ownsMap.update h law9 Try.underlying52 (by unfold maxLen; omega) hkey (plainElem_int (H := Unit) Try.underlying3 (a := c) (WalkArith.wf_i64 (by omega)))
  rw [put_bagD hr] at hown
  exact ⟨w', hrun, tight hown, hg⟩
/-- The table in block K, whose joined symbols lie in v and whose map is b, has the symbols J. -/
structure Stab (w : World) (K : Nat) (v : Value) (b : Option Nat) (J : List Joint) : Prop where
  cells : w.heap[K]? = some (.cells #[v, .map b] 54 (0, 0))
  good : Good J
  row : ownE jointE w 0 v J
  map : ∃ L, MapOf J L ∧ mapIs w b L
/-- The blocks of a table. -/
def mineT (K : Nat) (v : Value) (b : Option Nat) (k : Nat) : Prop := k = K ∨ some k = v.ownBlock ∨ some k = b
theorem Stab.lt {w : World} {K : Nat} {v : Value} {b : Option Nat} {J : List Joint} (h : Stab w K v b J) : ∀ k, mineT K v b k → k < w.heap.size := by
  rintro k (rfl | e | e)
  · exact (Array.getElem?_eq_some_iff.1 h.cells).1
  · exact (h.row.lt k e.symm).2
  · obtain ⟨L, _, hm⟩ := h.map
    rw [← e] at hm
    exact hm.lt
theorem Stab.kept {w w' : World} {K : Nat} {v : Value} {b : Option Nat} {J : List Joint} (h : Stab w K v b J) (hk : ∀ k, k < w.heap.size → mineT K v b k → w'.heap[k]? = w.heap[k]?) : Stab w' K v b J := by
  obtain ⟨L, h1, h2⟩ := h.map
  refine ⟨(hk K (h.lt K (.inl rfl)) (.inl rfl)).trans h.cells, h.good, h.row.kept fun g hg => hk g (h.row.lt g hg).2 (.inr (.inl hg.symm)), L, h1, h2.kept fun m e => ?_⟩
  subst e
  exact hk m h2.lt (.inr (.inr rfl))
theorem Stab.below {w w' : World} {K : Nat} {v : Value} {b : Option Nat} {J : List Joint} (h : Stab w K v b J) (hb : Below w.heap.size w w') : Stab w' K v b J := h.kept fun k hk _ => hb.block k hk
theorem Stab.drew {w : World} {K : Nat} {v : Value} {b : Option Nat} {J : List Joint} (h : Stab w K v b J) : Stab w.drew K v b J := h.kept fun _ _ _ => rfl
theorem Stab.drewN {w : World} {K : Nat} {v : Value} {b : Option Nat} {J : List Joint} (h : Stab w K v b J) (n : Nat) : Stab (w.drewN n) K v b J := h.kept fun _ _ _ => rfl
theorem Stab.cell {w : World} {K : Nat} {v : Value} {b : Option Nat} {J : List Joint} (h : Stab w K v b J) : w.cell? ⟨K, 0, none⟩ = some v ∧ w.cell? ⟨K, 1, none⟩ = some (.map b) ∧ w.frozen? ⟨K, 0, none⟩ = false ∧ w.frozen? ⟨K, 1, none⟩ = false :=
  ⟨by rw [cell_of_row w K 0 _ 54 (0, 0) h.cells]; rfl, by rw [cell_of_row w K 1 _ 54 (0, 0) h.cells]; rfl, Lib.frozen_of_heap h.cells 0, Lib.frozen_of_heap h.cells 1⟩
theorem snew_any (w : World) : Calls Try.prog 7 #[] w fun e w' => e = .returned (.pointer (some ⟨w.heap.size, 0, none⟩)) ∧ w' = w.alloc (.cells #[.slice none 0 0, .map none] 54) := by
  go_enter Try.func7, Try.ntmps7
  go_wp2
  go_ret
  exact ⟨rfl, rfl⟩
theorem new_stab (w : World) : Stab (w.alloc (.cells #[.slice none 0 0, .map none] 54)) w.heap.size (.slice none 0 0) none [] :=
  ⟨heap_alloc_new w _, good_nil, ownE.nil _ _, [], mapOf_nil, rfl⟩
theorem slen_any (K : Nat) (v : Value) (b : Option Nat) (J : List Joint) (w : World) (h : Stab w K v b J) (hJ : J.length ≤ 1000000) :
    Calls Try.prog 11 #[.pointer (some ⟨K, 0, none⟩)] w fun e w' => e = .returned (.int .i64 ((256 + J.length : Nat) : Int)) ∧ w' = w := by
  obtain ⟨c0, _⟩ := h.cell
  obtain ⟨a, cap, rfl, _⟩ := h.row.form
  clear h
  go_enter Try.func11, Try.ntmps11
  go_wp2
  go_ret
  exact ⟨retI (by omega), rfl⟩
theorem slen_nil (w : World) : Calls Try.prog 11 #[.pointer none] w fun e w' => e = .returned (.int .i64 0) ∧ w' = w := by
  go_enter Try.func11, Try.ntmps11
  go_wp2
  go_ret
  exact ⟨rfl, rfl⟩
/-- How a symbol was made. -/
def jointOf (J : List Joint) (id : Int) : Joint × Bool := if h : 256 ≤ id ∧ id < ((256 + J.length : Nat) : Int) then (J[(id - 256).toNat]'(by omega), true) else ((noText, 0, 0), false)
def jointV (p : Joint) : Value := .agg #[.string p.1, .int .i64 p.2.1, .int .i64 p.2.2]
theorem joint_not {J : List Joint} {id : Int} (h : ¬ (256 ≤ id ∧ id < ((256 + J.length : Nat) : Int))) : jointOf J id = ((noText, 0, 0), false) := by unfold jointOf; rw [dif_neg h]
theorem joint_yes {J : List Joint} {id : Int} {k : Nat} (hk : k < J.length) (h : id = ((256 + k : Nat) : Int)) : jointOf J id = (J[k], true) := by
  unfold jointOf
  rw [dif_pos (by omega)]
  have : (id - 256).toNat = k := by omega
  simp only [this]
/-- The cells of a symbol that was joined. -/
theorem Stab.at {w wr : World} {K : Nat} {b : Option Nat} {J : List Joint} {ad : Addr} {n cap : Nat} (h : Stab w K (.slice (some ad) n cap) b J) (hb : Below w.heap.size w wr) {k : Nat} (hk : k < J.length) :
    wr.cell? (ad.add (k * 3)) = some (.string J[k].1) ∧ wr.cell? ⟨(ad.add (k * 3)).block, (ad.add (k * 3)).off + 1, none⟩ = some (.int .i64 J[k].2.1) ∧ wr.cell? ⟨(ad.add (k * 3)).block, (ad.add (k * 3)).off + 2, none⟩ = some (.int .i64 J[k].2.2) := by
  have := elts_at h.row.reads hb hk
  exact ⟨this 0 _ rfl, by rw [← two_cell]; exact this 1 _ rfl, by rw [← three_cell]; exact this 2 _ rfl⟩
theorem Stab.some {w : World} {K : Nat} {b : Option Nat} {J : List Joint} {a : Option Addr} {n cap : Nat} (h : Stab w K (.slice a n cap) b J) {k : Nat} (hk : k < J.length) : ∃ ad, a = some ad := by
  obtain ⟨g, e, _⟩ := ownE_some h.row (by omega)
  exact ⟨_, e⟩
set_option maxHeartbeats 1000000 in
theorem joint_any (K : Nat) (v : Value) (b : Option Nat) (J : List Joint) (id : Int) (w : World) (h : Stab w K v b J) (hJ : J.length ≤ 1000000) (i0 : -9223372036854775808 ≤ id) (i1 : id ≤ 9223372036854775807) :
    Calls Try.prog 21 #[.pointer (some ⟨K, 0, none⟩), .int .i64 id] w fun e w' => e = .returned (.tuple #[jointV (jointOf J id).1, .bool (jointOf J id).2]) ∧ Below w.heap.size w w' := by
  have H := Lib.hid h
  have HA : Hid (Stab (w.alloc (.cells #[.string ⟨#[]⟩, .int .i64 0, .int .i64 0] 59)) K v b J) := Lib.hid (h.below ((Below.refl _ w).alloc (Nat.le_refl _) _))
  have HB : Hid (Below w.heap.size w (w.alloc (.cells #[.string ⟨#[]⟩, .int .i64 0, .int .i64 0] 59))) := Lib.hid ((Below.refl _ w).alloc (Nat.le_refl _) _)
  clear h
  by_cases h1 : id < 256
  · rw [joint_not (by omega)]
    go_enter Try.func21, Try.ntmps21
    go_wp2
    refine bodyPost_ret (v := .tuple #[jointV (noText, 0, 0), .bool false]) (by rw [results_cell_tmp rfl]; simp [go_sem, jointV, noText]) rfl ?_
    exact ⟨rfl, HB.out⟩
  · by_cases h2 : id < ((256 + J.length : Nat) : Int)
    · obtain ⟨k, hk⟩ : ∃ k : Nat, id - 256 = (k : Int) := ⟨(id - 256).toNat, by omega⟩
      have hkJ : k < J.length := by omega
      rw [joint_yes hkJ (by omega)]
      obtain ⟨a, cap, rfl, _⟩ := H.out.row.form
      obtain ⟨ad, rfl⟩ := H.out.some hkJ
      obtain ⟨c0, c1, c2⟩ := H.out.at HB.out hkJ
      obtain ⟨x0, _⟩ := HA.out.cell
      obtain ⟨⟨t, p, q⟩, hp⟩ : ∃ p, J[k] = p := ⟨_, rfl⟩
      rw [hp] at c0 c1 c2 ⊢
      clear hp
      go_enter Try.func21, Try.ntmps21
      go_wp2_with (go_at_call 11; refine (slen_any K _ b J _ HA.out hJ).mono ?_; rintro e w1 ⟨rfl, rfl⟩)
      refine bodyPost_ret (v := .tuple #[jointV (t, p, q), .bool true]) (by rw [results_cell_tmp rfl]; simp [go_sem, jointV]) rfl ?_
      exact ⟨rfl, (Below.refl _ w).alloc (Nat.le_refl _) _⟩
    · rw [joint_not (by omega)]
      go_enter Try.func21, Try.ntmps21
      go_wp2_with (go_at_call 11; refine (slen_any K v b J _ HA.out hJ).mono ?_; rintro e w1 ⟨rfl, rfl⟩)
      refine bodyPost_ret (v := .tuple #[jointV (noText, 0, 0), .bool false]) (by rw [results_cell_tmp rfl]; simp [go_sem, jointV, noText]) rfl ?_
      exact ⟨rfl, HB.out⟩
theorem joint_nil (id : Int) (w : World) (i0 : -9223372036854775808 ≤ id) (i1 : id ≤ 9223372036854775807) : Calls Try.prog 21 #[.pointer none, .int .i64 id] w fun e w' => e = .returned (.tuple #[jointV (noText, 0, 0), .bool false]) ∧ Below w.heap.size w w' := by
  have HB : Hid (Below w.heap.size w (w.alloc (.cells #[.string ⟨#[]⟩, .int .i64 0, .int .i64 0] 59))) := Lib.hid ((Below.refl _ w).alloc (Nat.le_refl _) _)
  by_cases h1 : id < 256
  · go_enter Try.func21, Try.ntmps21
    go_wp2
    refine bodyPost_ret (v := .tuple #[jointV (noText, 0, 0), .bool false]) (by rw [results_cell_tmp rfl]; simp [go_sem, jointV, noText]) rfl ?_
    exact ⟨rfl, HB.out⟩
  · go_enter Try.func21, Try.ntmps21
    go_wp2_with (go_at_call 11; refine (slen_nil _).mono ?_; rintro e w1 ⟨rfl, rfl⟩)
    refine bodyPost_ret (v := .tuple #[jointV (noText, 0, 0), .bool false]) (by rw [results_cell_tmp rfl]; simp [go_sem, jointV, noText]) rfl ?_
    exact ⟨rfl, HB.out⟩
theorem text_nil (id : Int) (w : World) : Calls Try.prog 12 #[.pointer none, .int .i64 id] w fun e w' => e = .returned (.tuple #[.string noText, .bool false]) ∧ w' = w := by
  go_enter Try.func12, Try.ntmps12
  go_wp2
  go_ret2
  exact ⟨rfl, rfl⟩
theorem find_nil (s : ByteArray) (w : World) : Calls Try.prog 13 #[.pointer none, .string s] w fun e w' => e = .returned (.tuple #[.int .i64 0, .bool false]) ∧ w' = w := by
  go_enter Try.func13, Try.ntmps13
  go_wp2
  go_ret2
  exact ⟨rfl, rfl⟩
theorem joint_txt {J : List Joint} {id : Int} (h : 256 ≤ id) : (jointOf J id).1.1 = txtOf J id ∧ (jointOf J id).2 = thereOf J id := by
  by_cases h2 : id < ((256 + J.length : Nat) : Int)
  · obtain ⟨k, hk⟩ : ∃ k : Nat, id = ((256 + k : Nat) : Int) := ⟨(id - 256).toNat, by omega⟩
    have hkJ : k < J.length := by omega
    subst hk
    rw [joint_yes hkJ rfl]
    have ht : thereOf J ((256 + k : Nat) : Int) = true := there_iff.2 ⟨by omega, by rw [texts_len]; omega⟩
    obtain ⟨h0, h1⟩ := there_iff.1 ht
    refine ⟨?_, ht.symm⟩
    rw [txt_there h0 h1]
    exact (texts_high hkJ (by rw [texts_len]; omega)).symm
  · rw [joint_not (by omega)]
    have ht : thereOf J id = false := by
      cases e : thereOf J id
      · rfl
      · obtain ⟨h0, h1⟩ := there_iff.1 e
        rw [texts_len] at h1
        omega
    exact ⟨(txt_not ht).symm, ht.symm⟩
set_option maxHeartbeats 1000000 in
theorem text_any (K : Nat) (v : Value) (b : Option Nat) (J : List Joint) (id : Int) (w : World) (h : Stab w K v b J) (hJ : J.length ≤ 1000000) (i0 : -9223372036854775808 ≤ id) (i1 : id ≤ 9223372036854775807) :
    Calls Try.prog 12 #[.pointer (some ⟨K, 0, none⟩), .int .i64 id] w fun e w' => e = .returned (.tuple #[.string (txtOf J id), .bool (thereOf J id)]) ∧ Below w.heap.size w w' := by
  have H := Lib.hid h
  clear h
  by_cases h1 : id < 0
  · have ht : thereOf J id = false := by
      unfold thereOf
      rw [decide_eq_false (by omega)]; rfl
    rw [ht, txt_not ht]
    go_enter Try.func12, Try.ntmps12
    go_wp2
    go_ret2
    exact ⟨rfl, Below.refl _ _⟩
  · by_cases h2 : id < 256
    · obtain ⟨c, rfl⟩ : ∃ c : Nat, id = (c : Int) := ⟨id.toNat, by omega⟩
      have hc : c < 256 := by omega
      have ht : thereOf J (c : Int) = true := there_iff.2 ⟨by omega, by rw [texts_len]; omega⟩
      have hx : txtOf J (c : Int) = oneB c := by
        obtain ⟨h0, h1⟩ := there_iff.1 ht
        rw [txt_there h0 h1]
        exact texts_low hc (by rw [texts_len]; omega)
      rw [ht, hx]
      clear ht hx
      have hw : IntKind.u8.wrap (c : Int) = (c : Int) := by rw [IntKind.wrap_u8]; omega
      have e1 : ((UInt8.ofNat c).toNat : Int) = (c : Int) := by rw [UInt8.toNat_ofNat']; omega
      have hconv := (lit_bytes w [UInt8.ofNat c] 1 (0, 0) rfl).text
      simp only [bcells, List.map_cons, List.map_nil, e1] at hconv
      clear e1
      go_enter Try.func12, Try.ntmps12
      go_wp2
      go_ret2
      exact ⟨rfl, (Below.refl _ w).alloc (Nat.le_refl _) _⟩
    · obtain ⟨j1, j2⟩ := joint_txt (J := J) (id := id) (by omega)
      rw [← j1, ← j2]
      clear j1 j2
      have cJ := joint_any K v b J id w H.out hJ i0 i1
      obtain ⟨⟨⟨t, p, q⟩, ok⟩, hj⟩ : ∃ r, jointOf J id = r := ⟨_, rfl⟩
      rw [hj] at cJ ⊢
      clear hj
      unfold jointV at cJ
      go_enter Try.func12, Try.ntmps12
      go_wp2_with (go_at_call 21; refine cJ.mono ?_; rintro e w1 ⟨rfl, hb⟩; have HB := Lib.hid hb; clear hb)
      go_ret2
      exact ⟨rfl, HB.out.alloc HB.out.size _⟩
def pairV (p : Joint × Bool) : Value := .tuple #[.agg #[.int .i64 p.1.2.1, .int .i64 p.1.2.2], .bool p.2]
/-- What is behind the call of joint in Pair. -/
theorem pair_box {w1 : World} {g : Nat} {p q : Int} {o : Obj} (hh : w1.heap[g]? = some (.cells #[.int .i64 0, .int .i64 0] 32 (0, 0))) :
    (((w1.setCell ⟨g, 0, none⟩ (.int .i64 p)).setCell ⟨g, 1, none⟩ (.int .i64 q)).alloc o).cell? ⟨g, 0, none⟩ = some (.int .i64 p) ∧
    (((w1.setCell ⟨g, 0, none⟩ (.int .i64 p)).setCell ⟨g, 1, none⟩ (.int .i64 q)).alloc o).cell? ⟨g, 1, none⟩ = some (.int .i64 q) := by
  have h1 := heap_setCell_at (i := 1) (heap_setCell_at (i := 0) hh (.int .i64 p)) (.int .i64 q)
  have h2 := (Below.heap_alloc _ o g (Array.getElem?_eq_some_iff.1 h1).1).trans h1
  exact ⟨by rw [cell_of_row _ g 0 _ 32 (0, 0) h2]; rfl, by rw [cell_of_row _ g 1 _ 32 (0, 0) h2]; rfl⟩
set_option maxHeartbeats 1000000 in
theorem pair_walk (x : Value) (id : Int) (r : Joint × Bool) (w : World)
    (cJ : Calls Try.prog 21 #[x, .int .i64 id] (w.alloc (.cells #[.int .i64 0, .int .i64 0] 32)) fun e w' => e = .returned (.tuple #[jointV r.1, .bool r.2]) ∧ Below (w.alloc (.cells #[.int .i64 0, .int .i64 0] 32)).heap.size (w.alloc (.cells #[.int .i64 0, .int .i64 0] 32)) w') :
    Calls Try.prog 15 #[x, .int .i64 id] w fun e w' => e = .returned (pairV r) ∧ Below w.heap.size w w' := by
  have HB0 : Hid (Below w.heap.size w (w.alloc (.cells #[.int .i64 0, .int .i64 0] 32))) := Lib.hid ((Below.refl _ w).alloc (Nat.le_refl _) _)
  obtain ⟨⟨t, p, q⟩, ok⟩ := r
  unfold jointV at cJ
  go_enter Try.func15, Try.ntmps15
  go_wp2_with fail
  refine cJ.mono ?_
  rintro e w1 ⟨rfl, hb⟩
  have HB := Lib.hid (HB0.out.trans (hb.mono HB0.out.size))
  have hh := hb.block w.heap.size (by rw [World.size_alloc]; omega)
  rw [heap_alloc_new] at hh
  clear hb cJ
  have hlt := HB.out.size
  obtain ⟨g, hg⟩ : ∃ g, w.heap.size = g := ⟨_, rfl⟩
  have hg1 : g < w1.heap.size := by rw [← hg]; exact (Array.getElem?_eq_some_iff.1 hh).1
  have HG : Hid (w.heap.size = g) := Lib.hid hg
  rw [hg] at hh ⊢
  clear hg
  have f0 := Lib.frozen_of_heap hh 0
  have f1 := Lib.frozen_of_heap hh 1
  have x0 : w1.cell? ⟨g, 0, none⟩ = some (.int .i64 0) := by rw [cell_of_row _ g 0 _ 32 (0, 0) hh]; rfl
  have x1 : w1.cell? ⟨g, 1, none⟩ = some (.int .i64 0) := by rw [cell_of_row _ g 1 _ 32 (0, 0) hh]; rfl
  have HX := Lib.hid hh
  clear hh
  go_wp2
  obtain ⟨y0, y1⟩ := pair_box (p := p) (q := q) (o := .cells #[.string t, .int .i64 p, .int .i64 q] 59) HX.out
  refine bodyPost_ret (v := pairV ((t, p, q), ok)) (by rw [results_cell_tmp rfl]; simp [go_sem, pairV, y0, y1]) rfl ?_
  exact ⟨rfl, ((HB.out.setCell (show w.heap.size ≤ g by rw [HG.out]; exact Nat.le_refl _) _).setCell (show w.heap.size ≤ g by rw [HG.out]; exact Nat.le_refl _) _).alloc (by simp [World.setCell]; exact HB.out.size) _⟩
theorem pair_any (K : Nat) (v : Value) (b : Option Nat) (J : List Joint) (id : Int) (w : World) (h : Stab w K v b J) (hJ : J.length ≤ 1000000) (i0 : -9223372036854775808 ≤ id) (i1 : id ≤ 9223372036854775807) :
    Calls Try.prog 15 #[.pointer (some ⟨K, 0, none⟩), .int .i64 id] w fun e w' => e = .returned (pairV (jointOf J id)) ∧ Below w.heap.size w w' :=
  pair_walk _ id _ w (joint_any K v b J id _ (h.below ((Below.refl _ w).alloc (Nat.le_refl _) _)) hJ i0 i1)
theorem pair_nil (id : Int) (w : World) (i0 : -9223372036854775808 ≤ id) (i1 : id ≤ 9223372036854775807) :
    Calls Try.prog 15 #[.pointer none, .int .i64 id] w fun e w' => e = .returned (pairV ((noText, 0, 0), false)) ∧ Below w.heap.size w w' := pair_walk _ id ((noText, 0, 0), false) w (joint_nil id _ i0 i1)
theorem sfind_any (K : Nat) (v : Value) (b : Option Nat) (J : List Joint) (s : ByteArray) (w : World) (h : Stab w K v b J) (hs : s.size ≤ 9223372036854775807) :
    Calls Try.prog 13 #[.pointer (some ⟨K, 0, none⟩), .string s] w fun e w' => e = .returned (.tuple #[.int .i64 (findOf J s).1, .bool (findOf J s).2]) ∧ w' = w := by
  obtain ⟨_, c1, _⟩ := h.cell
  obtain ⟨L, hm, hmap⟩ := h.map
  by_cases h1 : s.size = 1
  · rw [find_one h.good h1]
    have hu : (s[0]'(by omega)).toNat < 256 := UInt8.toNat_lt _
    have hl : (0 : Int) < (s.size : Int) := by omega
    have hsI : (s.size : Int) = 1 := by omega
    clear h hm hmap c1
    go_enter Try.func13, Try.ntmps13
    go_wp2
    go_ret2
    exact ⟨rfl, rfl⟩
  · rw [find_map h.good hm h1]
    have hlook := look2_run hmap s hs
    clear h hm hmap
    generalize L.any (fun p => p.1 = s) = ok at *
    generalize countOf L s = c at *
    go_enter Try.func13, Try.ntmps13
    go_wp2
    go_ret2
    exact ⟨rfl, rfl⟩
end Go.Proofs.Ytgjailjnnbpbdaa
