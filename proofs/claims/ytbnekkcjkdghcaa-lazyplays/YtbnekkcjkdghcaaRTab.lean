/- The document's own table of symbols: its memory, New, There, Find. -/
import Derived.Test.YtbnekkcjkdghcaaSAdd
namespace Go.Proofs.Ytbnekkcjkdghcaa
open Go.RowKit Go.Maps

/-- The document's table in block K: its texts lie in v, its pairs in p; all of it lies from base on. -/
structure Rtab (w : World) (base K : Nat) (v p : Value) (J : List Joint) : Prop where
  cells : w.heap[K]? = some (.cells #[v, p] 73 (0, 0))
  ge : base ≤ K
  texts : ownE textE w base v (textsOf J)
  pairs : ownE pairE w base p (J.map (·.2))
/-- Its blocks. -/
def mineR (K : Nat) (v p : Value) (k : Nat) : Prop := k = K ∨ some k = v.ownBlock ∨ some k = p.ownBlock
set_option maxRecDepth 100000 in
theorem Rtab.lt {w : World} {base K : Nat} {v p : Value} {J : List Joint} (h : Rtab w base K v p J) : ∀ k, mineR K v p k → base ≤ k ∧ k < w.heap.size := by
  rintro k (rfl | e | e)
  · exact ⟨h.ge, (Array.getElem?_eq_some_iff.1 h.cells).1⟩
  · exact h.texts.lt k e.symm
  · exact h.pairs.lt k e.symm
set_option maxRecDepth 100000 in
theorem Rtab.kept {w w' : World} {base K : Nat} {v p : Value} {J : List Joint} (h : Rtab w base K v p J) (hk : ∀ k, k < w.heap.size → mineR K v p k → w'.heap[k]? = w.heap[k]?) : Rtab w' base K v p J :=
  ⟨(hk K (h.lt K (.inl rfl)).2 (.inl rfl)).trans h.cells, h.ge, h.texts.kept fun g hg => hk g (h.texts.lt g hg).2 (.inr (.inl hg.symm)), h.pairs.kept fun g hg => hk g (h.pairs.lt g hg).2 (.inr (.inr hg.symm))⟩
set_option maxRecDepth 100000 in
theorem Rtab.below {w w' : World} {base K : Nat} {v p : Value} {J : List Joint} (h : Rtab w base K v p J) (hb : Below w.heap.size w w') : Rtab w' base K v p J := h.kept fun k hk _ => hb.block k hk
set_option maxRecDepth 100000 in
theorem Rtab.drew {w : World} {base K : Nat} {v p : Value} {J : List Joint} (h : Rtab w base K v p J) : Rtab w.drew base K v p J := h.kept fun _ _ _ => rfl
set_option maxRecDepth 100000 in
theorem Rtab.drewN {w : World} {base K : Nat} {v p : Value} {J : List Joint} (h : Rtab w base K v p J) (n : Nat) : Rtab (w.drewN n) base K v p J := h.kept fun _ _ _ => rfl
set_option maxRecDepth 100000 in
theorem rcell {w : World} {K : Nat} {v p : Value} (h : w.heap[K]? = some (.cells #[v, p] 73 (0, 0))) : w.cell? ⟨K, 0, none⟩ = some v ∧ w.cell? ⟨K, 1, none⟩ = some p ∧ w.frozen? ⟨K, 0, none⟩ = false ∧ w.frozen? ⟨K, 1, none⟩ = false :=
  ⟨by rw [cell_of_row w K 0 _ 73 (0, 0) h]; rfl, by rw [cell_of_row w K 1 _ 73 (0, 0) h]; rfl, Lib.frozen_of_heap h 0, Lib.frozen_of_heap h 1⟩
set_option maxRecDepth 100000 in
/-- The blocks of the program's table and of the document's are not the same. -/
theorem apart {w : World} {base K K2 : Nat} {v v2 p : Value} {b : Option Nat} {J J2 : List Joint} (h : Stab w K v b J) (h2 : Rtab w base K2 v2 p J2) (k : Nat) (hm : mineT K v b k) : ¬ mineR K2 v2 p k := by
  have hr : ∀ k, mineR K2 v2 p k → ∃ cs ty, w.heap[k]? = some (.cells cs ty (0, 0)) ∧ (ty = 73 ∨ ty = 9 ∨ ty = 41) := by
    rintro k (rfl | e | e)
    · exact ⟨_, _, h2.cells, .inl rfl⟩
    · obtain ⟨cs, hc⟩ := h2.texts.block k e.symm
      exact ⟨cs, _, hc, .inr (.inl rfl)⟩
    · obtain ⟨cs, hc⟩ := h2.pairs.block k e.symm
      exact ⟨cs, _, hc, .inr (.inr rfl)⟩
  intro hm2
  obtain ⟨cs, ty, hc, hty⟩ := hr k hm2
  rcases hm with rfl | e | e
  · rw [h.cells] at hc
    cases hc
    rcases hty with e | e | e <;> cases e
  · obtain ⟨cs', hc'⟩ := h.row.block k e.symm
    rw [hc] at hc'
    cases hc'
    rcases hty with e | e | e <;> cases e
  · obtain ⟨L, _, hL⟩ := h.map
    rw [← e] at hL
    obtain ⟨es, cl, hb⟩ := hL.block
    rw [hc] at hb; cases hb
def RNewRel (w : World) (K : Nat) (i : Value) (wr : World) : Prop := ∃ (c : Nat) (v : Value), i = .int .i64 (c : Int) ∧ c ≤ 256 ∧ wr.heap[K]? = some (.cells #[v, .slice none 0 0] 73 (0, 0)) ∧ ownE textE wr w.heap.size v (ones.take c) ∧ Below w.heap.size w wr
def RNewRet (w : World) (e : Ending) (w' : World) : Prop := ∃ v p, e = .returned (.pointer (some ⟨w.heap.size, 0, none⟩)) ∧ Rtab w' w.heap.size w.heap.size v p [] ∧ Below w.heap.size w w'
set_option maxRecDepth 100000 in
theorem rnew_step {w wr w3 : World} {K c : Nat} {v r : Value} {T : List ByteArray} {o o2 : Obj} (hT : ones.take c = T) (hc : c < 256) (hh : w3.heap[K]? = some (.cells #[v, .slice none 0 0] 73 (0, 0))) (hK : w.heap.size ≤ K) (ho : ownE textE w3 w.heap.size r (T ++ [oneB c])) (hown : ownE textE wr w.heap.size v T)
    (hb : Below w.heap.size w wr) (hg : ((wr.alloc o).alloc o2).drew.grownBy w3 v.ownBlock) : RNewRel w K (.int .i64 ((c : Int) + 1)) (w3.setCell ⟨K, 0, none⟩ r) := by
  have hs := hb.size
  refine ⟨c + 1, r, by simp, hc, heap_setCell_at hh r, ?_, ?_⟩
  · rw [ones_more hc, hT]
    refine ho.kept fun g hg => Below.heap_setCell _ _ _ _ ?_
    rintro rfl
    obtain ⟨cs, hcs⟩ := ho.block _ hg
    rw [hh] at hcs; cases hcs
  · refine Below.setCell ?_ hK _
    refine Below.grown (((hb.alloc hs o).alloc (by rw [World.size_alloc]; omega) o2).drew) hg ?_ fun g hg => (hown.lt g hg).1
    show w.heap.size ≤ ((wr.alloc o).alloc o2).heap.size
    rw [World.size_alloc, World.size_alloc]; omega
set_option maxRecDepth 100000 in
set_option maxHeartbeats 2000000 in
theorem rnew_any (w : World) : Calls Try.prog 9 #[] w fun e w' => RNewRet w e w' := by
  go_enter Try.func9, Try.ntmps9
  go_wp2
  obtain ⟨K, hK⟩ : ∃ K, w.heap.size = K := ⟨_, rfl⟩
  have HK := Lib.hid hK
  have HS : Hid (RNewRel w K (.int .i64 0) (w.alloc (.cells #[.slice none 0 0, .slice none 0 0] 73))) := Lib.hid ⟨0, _, rfl, by omega, by rw [← hK]; exact heap_alloc_new w _, ownE.nil _ _, (Below.refl _ w).alloc (Nat.le_refl _) _⟩
  rw [hK]
  clear hK
  go_loopw [2] (fun i wr => RNewRel w K i wr) (fun i _ => 257 - (intOf i).toNat)
  case atStart => exact HS.out
  case round =>
    obtain ⟨c, v, rfl, hc, hh, hown, hb⟩ := hrel
    have HH := Lib.hid hh; have HO := Lib.hid hown; have HB := Lib.hid hb
    clear hh hown hb
    by_cases hgo : c < 256
    · have hgI : (c : Int) < 256 := by omega
      obtain ⟨T, hT⟩ : ∃ T, ones.take c = T := ⟨_, rfl⟩
      rw [hT] at HO
      have HT := Lib.hid hT
      have hTl : T.length = c := by rw [← hT, List.length_take, ones_len]; omega
      have HTl := Lib.hid hTl
      clear hT hTl
      obtain ⟨a, cap, rfl, _⟩ := HO.out.form
      obtain ⟨x0, x1, f0, f1⟩ := rcell HH.out
      have hw : IntKind.u8.wrap (c : Int) = (c : Int) := by rw [IntKind.wrap_u8]; omega
      have e1 : ((UInt8.ofNat c).toNat : Int) = (c : Int) := by rw [UInt8.toNat_ofNat']; omega
      have hconv := (show bytesAt (wr.alloc (.cells (bcells [UInt8.ofNat c]).toArray 5)).drew (.slice (some ⟨wr.heap.size, 0, none⟩) 1 1) [UInt8.ofNat c] from lit_bytes wr [UInt8.ofNat c] 1 (0, 0) rfl).text
      simp only [bcells, List.map_cons, List.map_nil, e1] at hconv
      replace hconv : (convert 74 9 (.slice (some ⟨wr.heap.size, 0, none⟩) 1 1)).run Try.prog (wr.alloc (.cells #[.int .u8 (c : Int)] 5)).drew = .ok (.string (oneB c)) (wr.alloc (.cells #[.int .u8 (c : Int)] 5)).drew := hconv
      clear e1
      have hKw := (Array.getElem?_eq_some_iff.1 HH.out).1
      have HO2 : Hid (ownE textE ((wr.alloc (.cells #[.int .u8 (c : Int)] 5)).alloc (.cells #[.string (oneB c)] 9)).drew w.heap.size (.slice a T.length cap) T) := Lib.hid ((HO.out.alloc _).alloc _).drew
      have HE2 : Hid (eltsAt textE ((wr.alloc (.cells #[.int .u8 (c : Int)] 5)).alloc (.cells #[.string (oneB c)] 9)).drew (.slice (some ⟨wr.heap.size + 1, 0, none⟩) 1 1) [oneB c]) := Lib.hid (by
        have := one_elt textE (wr.alloc (.cells #[.int .u8 (c : Int)] 5)) (oneB c)
        rw [World.size_alloc] at this
        exact this)
      have HS2 : Hid (((wr.alloc (.cells #[.int .u8 (c : Int)] 5)).alloc (.cells #[.string (oneB c)] 9)).drew.heap.size = wr.heap.size + 2) := Lib.hid (by show ((wr.alloc _).alloc _).heap.size = _; rw [World.size_alloc, World.size_alloc])
      have HH2 : Hid (((wr.alloc (.cells #[.int .u8 (c : Int)] 5)).alloc (.cells #[.string (oneB c)] 9)).drew.heap[K]? = some (.cells #[.slice a T.length cap, .slice none 0 0] 73 (0, 0))) := Lib.hid (by
        refine (Below.heap_alloc (wr.alloc _) _ K (by rw [World.size_alloc]; omega)).trans ?_
        exact (Below.heap_alloc wr _ K hKw).trans HH.out)
      obtain ⟨y0, y1, g0, g1⟩ := rcell HH2.out
      have hx2 : (wr.alloc (.cells #[.int .u8 (c : Int)] 5)).drew.cell? ⟨K, 0, none⟩ = some (.slice a T.length cap) := ((Below.refl _ wr).alloc (Nat.le_refl _) _).cell (B := wr.heap.size) hKw |>.trans x0
      have hBs := HB.out.size
      have HLen : Hid ((T ++ [oneB c]).length = T.length + 1) := Lib.hid (by simp)
      go_wp2
      go_region_law
        (first | (refine step_append_elts textE rfl (.tmp 13) (.tmp 18) rfl w.heap.size (.slice a T.length cap) (.slice (some ⟨wr.heap.size + 1, 0, none⟩) 1 1) T [oneB c] rfl rfl HO2.out HE2.out (someNone _ _ _) (by simp only [List.length_singleton]; have := HTl.out; omega) (by rw [HS2.out]; omega) ?_; intro r w3 ho3 hgr3 _; obtain ⟨ra, rc, rfl, _⟩ := ho3.form; rw [HLen.out] at ho3; have HO3 := Lib.hid ho3; have HG3 := Lib.hid hgr3; have HH3 : Hid (w3.heap[K]? = some (.cells #[.slice a T.length cap, .slice none 0 0] 73 (0, 0))) := Lib.hid (by refine (hgr3.block K (by rw [HS2.out]; omega) ?_).trans HH2.out; intro e; obtain ⟨cs, hcs⟩ := HO2.out.block K e.symm; rw [HH2.out] at hcs; cases hcs); obtain ⟨z0, z1, z2, z3⟩ := rcell HH3.out; clear ho3 hgr3))
      all_goals (
        go_wp2
        go_roundw
        case rel => exact rnew_step HT.out hgo HH3.out (by rw [HK.out]; exact Nat.le_refl _) HO3.out HO.out HB.out HG3.out
        case measure => simp [intOf]; omega)
    · have hgI : ¬ (c : Int) < 256 := by omega
      obtain rfl : c = 256 := by omega
      have hown := HO.out
      rw [List.take_of_length_le (by rw [ones_len]; exact Nat.le_refl _)] at hown
      have HE : Hid (Rtab wr w.heap.size w.heap.size v (.slice none 0 0) []) := Lib.hid ⟨by rw [HK.out]; exact HH.out, Nat.le_refl _, by unfold textsOf; rw [List.map_nil, List.append_nil]; exact hown, ownE.nil _ _⟩
      clear hown
      go_wp2
      go_ret
      exact ⟨_, _, by rw [HK.out]; rfl, HE.out, HB.out⟩
set_option maxRecDepth 100000 in
theorem rthere_any (base K : Nat) (v p : Value) (J : List Joint) (id : Int) (w : World) (h : Rtab w base K v p J) :
    Calls Try.prog 62 #[.pointer (some ⟨K, 0, none⟩), .int .i64 id] w fun e w' => e = .returned (.bool (thereOf J id)) ∧ w' = w := by
  obtain ⟨c0, c1, _, _⟩ := rcell h.cells
  obtain ⟨a, cap, rfl, _⟩ := h.texts.form
  rw [texts_len] at c0
  clear h
  unfold thereOf
  by_cases h1 : 0 ≤ id
  · rw [decide_eq_true h1]
    go_enter Try.func62, Try.ntmps62
    go_wp2
    go_ret
    exact ⟨retB (by simp), rfl⟩
  · rw [decide_eq_false h1]
    go_enter Try.func62, Try.ntmps62
    go_wp2
    go_ret
    exact ⟨rfl, rfl⟩
def RFindRel (J : List Joint) (s : ByteArray) (w : World) (i : Value) (wr : World) : Prop := ∃ k : Nat, i = .int .i64 (k : Int) ∧ k ≤ (textsOf J).length ∧ wr = w ∧ findOf J s = findFrom k ((textsOf J).drop k) s
end Go.Proofs.Ytbnekkcjkdghcaa
