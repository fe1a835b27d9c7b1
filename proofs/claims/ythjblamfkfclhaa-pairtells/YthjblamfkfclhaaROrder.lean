/- The document's own Order. -/
import Derived.Test.YthjblamfkfclhaaRPair
import Derived.Test.YthjblamfkfclhaaPSort
import Derived.BigQuiet
import Derived.Deep.RegionHeld3
namespace Go.Proofs.Ythjblamfkfclhaa
open Go.RowKit Go.Maps Go.Shelf
open Go.Sort (grow SWO)

def intE : Elt Int where
  ty := 3
  sl := 29
  n := 1
  bytes := 8
  zero := .int .i64 0
  enc := fun t => [.int .i64 t]
  under := Try.underlying29
  info := by kernel_rfl
  pos := by decide
  small := by decide
  zlen := by kernel_rfl
  len := fun _ => rfl
  one := fun x u hu => by
    simp only [List.mem_cons, List.not_mem_nil, or_false] at hu
    rcases hu with rfl; rfl
theorem ints_cell {w wr : World} {L : List Int} {ad : Addr} {n cap : Nat} (h : eltsAt intE w (.slice (some ad) n cap) L) (hb : Below w.heap.size w wr) {k : Nat} (hk : k < L.length) : wr.cell? (ad.add k) = some (.int .i64 L[k]) := by
  have := elts_at h hb hk 0 _ rfl
  rwa [show intE.n = 1 from rfl, Nat.mul_one, Nat.add_zero] at this
theorem sizeInts (w : World) : (sizeOf (Try.prog.elem 29)).run Try.prog w = .ok 1 w := by
  obtain ⟨j0, hj, hy0, hy1, hy2⟩ := info_parts intE.info
  have he : Try.prog.elem 29 = intE.ty := by kernel_rfl
  rw [he]
  simp [sizeOf, typeInfo, hj, hy1]
  rfl
theorem elemInts : Try.prog.underlying 29 = some (.slice (Try.prog.elem 29)) := by kernel_rfl
/-- 'x[:k]' of a row of numbers. -/
theorem ints_head (a : Option Addr) (len cap k : Nat) (K : Int) (hK : K = (k : Int)) (hk : k ≤ cap) (hn : nilNone (.slice a len cap)) : ∃ v, (∀ w, (Instr.slice 29 (.slice a len cap) none (some (.int .i64 K)) none).run Try.prog w = .ok v w) ∧ nilNone v ∧
    ∀ w L, eltsAt intE w (.slice a len cap) L → k ≤ L.length → eltsAt intE w v (L.take k) := by
  subst hK
  refine ⟨sliced a 0 k cap 1, fun w => ?_, ?_, ?_⟩
  · rw [run_slice_h w 29 a len cap elemInts .i64 k (by omega) (by omega), sizeInts]
    simp
  · intro n c e
    unfold sliced at e
    cases a with
    | none => have := hn _ _ rfl; subst this; simp at e; omega
    | some a => simp at e; split at e <;> simp at e
  · rintro w L ⟨a', cap', e, hc⟩ hkL
    obtain ⟨rfl, rfl, rfl⟩ := Value.slice.inj e
    unfold sliced
    refine ⟨_, cap - 0, by rw [List.length_take, Nat.min_eq_left hkL]; rfl, fun j hj => ?_⟩
    rw [List.length_take] at hj
    obtain ⟨ad, rfl, hlt, hcj⟩ := hc j (by omega)
    refine ⟨ad, ?_, hlt, fun i u hu => hcj i u ?_⟩
    · split <;> simp [add_zero_any]
    · rw [List.getElem_take] at hu; exact hu
/-- 'x[l:]' of a row of numbers. -/
theorem ints_tail (a : Option Addr) (len cap l : Nat) (K : Int) (hK : K = (l : Int)) (hl : l ≤ len) (hc : len ≤ cap) (hn : nilNone (.slice a len cap)) : ∃ v, (∀ w, (Instr.slice 29 (.slice a len cap) (some (.int .i64 K)) none none).run Try.prog w = .ok v w) ∧ nilNone v ∧
    ∀ w L, eltsAt intE w (.slice a len cap) L → eltsAt intE w v (L.drop l) := by
  subst hK
  refine ⟨sliced a l len cap 1, fun w => ?_, ?_, ?_⟩
  · rw [run_slice_l w 29 a len cap elemInts .i64 l (by omega) (by omega), sizeInts]
    simp
  · intro n c e
    unfold sliced at e
    cases a with
    | none => have := hn _ _ rfl; subst this; simp at e; omega
    | some a => simp at e; split at e <;> simp at e
  · rintro w L ⟨a', cap', e, hcL⟩
    obtain ⟨rfl, rfl, rfl⟩ := Value.slice.inj e
    unfold sliced
    refine ⟨_, cap - l, by rw [List.length_drop], fun j hj => ?_⟩
    rw [List.length_drop] at hj
    obtain ⟨ad, rfl, hlt, hcj⟩ := hcL (l + j) (by omega)
    refine ⟨ad.add l, ?_, by rw [add_block]; exact hlt, fun i u hu => ?_⟩
    · rw [if_neg (by omega)]; simp
    · rw [List.getElem_drop] at hu
      have := hcj i u hu
      rw [show intE.n = 1 from rfl] at this ⊢
      rw [add_add_any, show l + (j * 1 + i) = (l + j) * 1 + i by omega]
      exact this
/-- The first i places, sorted. -/
def OrdUpto (J : List Joint) (L : List Item) (i : Nat) (d : List Nat) : Prop := d.Perm (List.range i) ∧ d.Pairwise fun a b => lex (ltI J L) a b = true
theorem OrdUpto.len {J : List Joint} {L : List Item} {i : Nat} {d : List Nat} (h : OrdUpto J L i d) : d.length = i := by have := h.1.length_eq; simpa using this
theorem OrdUpto.lt {J : List Joint} {L : List Item} {i : Nat} {d : List Nat} (h : OrdUpto J L i d) {x : Nat} (hx : x ∈ d) : x < i := by have := h.1.mem_iff.1 hx; simpa using this
theorem ord_step {J : List Joint} {L : List Item} {i : Nat} {d : List Nat} {p : Nat} (h : OrdUpto J L i d) (hp : p ≤ d.length) (hhi : ∀ k (hk : k < d.length), p ≤ k → ltI J L i d[k] = true) (hlo : p = 0 ∨ ∃ hk : p - 1 < d.length, ltI J L i d[p - 1] = false) : OrdUpto J L (i + 1) (d.take p ++ [i] ++ d.drop p) := by
  have hO := ltI_swo J L
  have hup : ∀ x ∈ d, lex (ltI J L) i x = ltI J L i x := fun x hx => lex_up (h.lt hx)
  have hpw := List.pairwise_iff_getElem.1 h.2
  have low : ∀ x ∈ d.take p, lex (ltI J L) x i = true := by
    intro x hx
    obtain ⟨k, hk, rfl⟩ := List.getElem_of_mem hx
    have hk2 : k < p := by simp at hk; omega
    have hk3 : k < d.length := by omega
    rw [List.getElem_take]
    rcases hlo with e | ⟨hk1, e⟩
    · omega
    · have e2 : lex (ltI J L) d[p - 1] i = true := by
        have e3 : lex (ltI J L) i d[p - 1] = false := by rw [hup _ (List.getElem_mem hk1)]; exact e
        rcases lex_or e3 with e4 | e4
        · have := h.lt (List.getElem_mem hk1); omega
        · exact e4
      by_cases e5 : k = p - 1
      · subst e5; exact e2
      · exact lex_trans hO _ _ _ (hpw k (p - 1) hk3 hk1 (by omega)) e2
  have high : ∀ x ∈ d.drop p, lex (ltI J L) i x = true := by
    intro x hx
    rw [hup x (List.mem_of_mem_drop hx)]
    obtain ⟨k, hk, rfl⟩ := List.getElem_of_mem hx
    rw [List.getElem_drop]
    exact hhi _ (by simp at hk; omega) (by omega)
  refine ⟨?_, ?_⟩
  · rw [List.range_succ]
    have h1 : (d.take p ++ [i] ++ d.drop p).Perm (d.take p ++ d.drop p ++ [i]) := by
      rw [List.append_assoc, List.append_assoc]
      exact List.Perm.append_left _ List.perm_append_comm
    rw [List.take_append_drop] at h1
    exact h1.trans (h.1.append_right _)
  · have hd := h.2
    rw [← List.take_append_drop p d, List.pairwise_append] at hd
    rw [List.append_assoc, List.pairwise_append, List.singleton_append, List.pairwise_cons]
    refine ⟨hd.1, ⟨high, hd.2.1⟩, fun x hx y hy => ?_⟩
    rcases List.mem_cons.1 hy with e | e
    · rw [e]; exact low x hx
    · exact hd.2.2 x hx y e
/-- The three appends. -/
theorem below_grown {wz W w2 : World} {g : Nat} (h : Below wz.heap.size wz W) (hg : W.grownBy w2 (some g)) (hgz : wz.heap.size ≤ g) : Below wz.heap.size wz w2 := h.grown hg h.size fun k e => by cases e; exact hgz
theorem below_own {wz W w2 : World} {v : Value} {n : List Int} (h : Below wz.heap.size wz W) (hg : W.grownBy w2 v.ownBlock) (ho : ownE intE W wz.heap.size v n) : Below wz.heap.size wz w2 := h.grown hg h.size fun k e => (ho.lt k e).1
theorem own0 (wz : World) : ownE intE (wz.alloc (.cells #[] 3)) wz.heap.size (.slice (some ⟨wz.heap.size, 0, none⟩) 0 0) [] :=
  ⟨by simp [ecells], .inr ⟨wz.heap.size, 0, #[], rfl, Nat.le_refl _, heap_alloc_new wz _, Nat.le_refl _, by unfold maxLen; omega, by simp, by simp [ecells]⟩⟩
/-- Here it stops: nothing is ahead, or what is isn't worse. -/
def StopAt (J : List Joint) (L : List Item) (i : Nat) (d : List Nat) (p : Nat) : Prop := p = 0 ∨ ∃ hk : p - 1 < d.length, ltI J L i d[p - 1] = false
def prs (q : Item) : Int × Int := (q.1, q.2.1)
def cnt (q : Item) : Int := q.2.2
/-- The row of places so far. -/
def Out (wr : World) (v : Value) (d : List Nat) : Prop := eltsAt intE wr v (d.map Int.ofNat) ∧ nilNone v ∧ ∃ a cap, v = .slice a d.length cap ∧ d.length ≤ cap
theorem out_of {w4 : World} {b : Nat} {r4 : Value} {d : List Nat} {p i : Nat} {T1 T2 : List Int} (h : ownE intE w4 b r4 (T1 ++ [(i : Int)] ++ T2)) (hT : T1 = (d.map Int.ofNat).take p ∧ T2 = (d.map Int.ofNat).drop p) : Out w4 r4 (d.take p ++ [i] ++ d.drop p) := by
  have e : (d.take p ++ [i] ++ d.drop p).map Int.ofNat = T1 ++ [(i : Int)] ++ T2 := by
    rw [hT.1, hT.2, List.map_append, List.map_append, List.map_take, List.map_drop]
    rfl
  obtain ⟨a, cap, e1, e2⟩ := h.form
  have e3 : (T1 ++ [(i : Int)] ++ T2).length = (d.take p ++ [i] ++ d.drop p).length := by rw [← e, List.length_map]
  rw [e3] at e1 e2
  exact ⟨by rw [e]; exact h.reads, h.nilNone, a, cap, e1, e2⟩
def OrdRel (J : List Joint) (L : List Item) (w : World) (x y : Value) (wr : World) : Prop := ∃ (i : Nat) (d : List Nat), y = .int .i64 (i : Int) ∧ i ≤ L.length ∧ OrdUpto J L i d ∧ Out wr x d ∧ Below w.heap.size w wr
def AtRel (J : List Joint) (L : List Item) (i : Nat) (d : List Nat) (w : World) (y : Value) (wr : World) : Prop := ∃ p : Nat, y = .int .i64 (p : Int) ∧ p ≤ d.length ∧ (∀ k (hk : k < d.length), p ≤ k → ltI J L i d[k] = true) ∧ Grown w wr
def OrderRet (J : List Joint) (L : List Item) (w : World) (e : Ending) (w' : World) : Prop := ∃ v d, e = .returned v ∧ OrdUpto J L L.length d ∧ Out w' v d ∧ Below w.heap.size w w'
set_option maxRecDepth 100000 in
set_option maxHeartbeats 8000000 in
theorem order_any (base K : Nat) (tv tp : Value) (J : List Joint) (L : List Item) (v u : Value) (w : World) (h : Rtab w base K tv tp J) (hg : Good J) (hJ : J.length ≤ 1000000) (hv : eltsAt pairE w v (L.map prs)) (hu : eltsAt intE w u (L.map cnt)) (hL : L.length ≤ 1000) (hfi : ∀ q ∈ L, FitsI q) :
    Calls Try.prog 8 #[.pointer (some ⟨K, 0, none⟩), v, u] w fun e w' => OrderRet J L w e w' := by
  have mixed : Try.prog.follows .mixedOrders = true := by kernel_rfl
  have H := Lib.hid h
  have HV := Lib.hid hv
  have HU := Lib.hid hu
  have HF := Lib.hid hfi
  obtain ⟨ar, cap, rfl, _⟩ := hv
  obtain ⟨ur, cau, rfl, _⟩ := hu
  have HG := Lib.hid hg
  clear h hfi hg
  rw [List.length_map] at HV HU
  rw [List.length_map, List.length_map]
  go_enter Try.func8, Try.ntmps8
  go_wp2
  go_loopw [7, 8] (fun x y wr => OrdRel J L w x y wr) (fun _ y _ => L.length + 1 - (intOf y).toNat)
  case atStart => exact ⟨0, [], rfl, by omega, ⟨by simp, List.Pairwise.nil⟩, ⟨eltsAt.nil w, (fun n c e => by cases e; rfl), none, 0, rfl, by simp⟩, Below.refl _ _⟩
  case round =>
    obtain ⟨i, d, rfl, hi, hord, hout, hbel⟩ := hrel
    obtain ⟨hel, hnn, oa, oc, rfl, hoc⟩ := hout
    have HO := Lib.hid hord
    have HEL := Lib.hid hel
    have HNN := Lib.hid hnn
    have HB := Lib.hid hbel
    have hdl : d.length = i := hord.len
    have HDL := Lib.hid hdl
    have hd1 : d.length ≤ 1000 := by omega
    clear hord hel hnn hbel hdl
    obtain ⟨wo, hwo⟩ : ∃ wo, wo = wr := ⟨_, rfl⟩
    subst hwo
    by_cases hgo : i < L.length
    · have hgoI : (i : Int) < (L.length : Int) := by omega
      go_wp2
      go_loopw [9] (fun y wr => AtRel J L i d wo y wr) (fun y _ => (intOf y).toNat + 1)
      case atStart => exact ⟨d.length, rfl, Nat.le_refl _, fun k hk h => absurd h (by omega), Grown.refl _⟩
      case round =>
        obtain ⟨p, rfl, hp, hhi, hgr⟩ := hrel
        have HHI : Aside (∀ k (hk : k < d.length), p ≤ k → ltI J L i d[k] = true) := hhi
        have HGR := Lib.hid hgr
        clear hhi hgr
        have HBW : Hid (Below w.heap.size w wr) := Lib.hid (HB.out.trans (HGR.out.below.mono HB.out.size))
        by_cases hp0 : p = 0
        · subst hp0
          have hq0 : decide ((0 : Int) < ((0 : Nat) : Int)) = false := rfl
          go_wp2_with fail
          go_quiet (fail)
          have HGZ : Hid (Grown wo (wr.drewN nq)) := Lib.hid (HGR.out.drewN nq)
          have HLO : Hid (StopAt J L i d 0) := Lib.hid (.inl rfl)
          have HHJ : Aside (∀ k (hk : k < d.length), 0 ≤ k → ltI J L i d[k] = true) := HHI.out
          generalize wr.drewN nq = wz at *
          obtain ⟨vh, hvh, nh, eh⟩ := ints_head oa d.length oc 0 0 (by omega) (by omega) HNN.out
          obtain ⟨vt, hvt, nt, et⟩ := ints_tail oa d.length oc 0 0 (by omega) (by omega) hoc HNN.out
          obtain ⟨T1, hT1⟩ : ∃ T1, T1 = (d.map Int.ofNat).take 0 := ⟨_, rfl⟩
          obtain ⟨T2, hT2⟩ : ∃ T2, T2 = (d.map Int.ofNat).drop 0 := ⟨_, rfl⟩
          have HT1l : Hid (T1.length ≤ 1000) := Lib.hid (by rw [hT1, List.length_take, List.length_map]; omega)
          have HT2l : Hid (T2.length ≤ 1000) := Lib.hid (by rw [hT2, List.length_drop, List.length_map]; omega)
          have HEH : Hid (∀ W, Below wz.heap.size wz W → eltsAt intE W vh T1) := Lib.hid (fun W hW => by rw [hT1]; exact eh W _ (HEL.out.below (HGZ.out.below.trans (hW.mono HGZ.out.below.size)) (Nat.le_refl _)) (by rw [List.length_map]; omega))
          have HET : Hid (∀ W, Below wz.heap.size wz W → eltsAt intE W vt T2) := Lib.hid (fun W hW => by rw [hT2]; exact et W _ (HEL.out.below (HGZ.out.below.trans (hW.mono HGZ.out.below.size)) (Nat.le_refl _)))
          have HNH := Lib.hid nh
          have HNT := Lib.hid nt
          have HT := Lib.hid (And.intro hT1 hT2)
          clear eh et nh nt hT1 hT2
          obtain ⟨E0, hE0⟩ : ∃ E0 : Obj, E0 = .cells #[] 3 := ⟨_, rfl⟩
          obtain ⟨I0, hI0⟩ : ∃ I0 : Obj, I0 = .cells #[.int .i64 (i : Int)] 3 := ⟨_, rfl⟩
          have bz := Below.refl wz.heap.size wz
          have B1 : Hid (Below wz.heap.size wz (wz.alloc (.cells #[] 3)).drew) := Lib.hid (bz.alloc (Nat.le_refl _) _).drew
          have B2 : Hid (Below wz.heap.size wz ((wz.alloc (.cells #[] 3)).alloc (.cells #[.int .i64 (i : Int)] 3)).drew) := Lib.hid ((bz.alloc (Nat.le_refl _) _).alloc (by simp) _).drew
          have B3 : Hid (Below wz.heap.size wz ((wz.alloc (.cells #[.int .i64 (i : Int)] 3)).alloc (.cells #[] 3)).drew) := Lib.hid ((bz.alloc (Nat.le_refl _) _).alloc (by simp) _).drew
          have A1 : Hid (ownE intE (wz.alloc (.cells #[] 3)).drew wz.heap.size (.slice (some ⟨wz.heap.size, 0, none⟩) 0 0) []) := Lib.hid (own0 wz).drew
          have A2 : Hid (ownE intE ((wz.alloc (.cells #[] 3)).alloc (.cells #[.int .i64 (i : Int)] 3)).drew wz.heap.size (.slice (some ⟨wz.heap.size, 0, none⟩) 0 0) []) := Lib.hid ((own0 wz).alloc _).drew
          have A3 : Hid (ownE intE ((wz.alloc (.cells #[.int .i64 (i : Int)] 3)).alloc (.cells #[] 3)).drew wz.heap.size (.slice (some ⟨wz.heap.size + 1, 0, none⟩) 0 0) []) := Lib.hid (by
            have := ((own0 (wz.alloc (.cells #[.int .i64 (i : Int)] 3))).mono (b' := wz.heap.size) (by simp)).drew
            rwa [World.size_alloc] at this)
          have I2 : Hid (eltsAt intE ((wz.alloc (.cells #[] 3)).alloc (.cells #[.int .i64 (i : Int)] 3)).drew (.slice (some ⟨wz.heap.size + 1, 0, none⟩) 1 1) [(i : Int)]) := Lib.hid (by
            have := (one_elt intE (wz.alloc (.cells #[] 3)) (i : Int)).drew 1
            rwa [World.size_alloc] at this)
          have I3 : Hid (eltsAt intE ((wz.alloc (.cells #[.int .i64 (i : Int)] 3)).alloc (.cells #[] 3)).drew (.slice (some ⟨wz.heap.size, 0, none⟩) 1 1) [(i : Int)]) := Lib.hid (((one_elt intE wz (i : Int)).below ((Below.refl _ _).alloc (Nat.le_refl _) (.cells #[] 3)) (Nat.le_refl _)).drew 1)
          have S1 : Hid (wz.heap.size ≤ (wz.alloc (.cells #[] 3)).drew.heap.size) := Lib.hid B1.out.size
          have S2 : Hid (wz.heap.size ≤ ((wz.alloc (.cells #[] 3)).alloc (.cells #[.int .i64 (i : Int)] 3)).drew.heap.size) := Lib.hid B2.out.size
          have S3 : Hid (wz.heap.size ≤ ((wz.alloc (.cells #[.int .i64 (i : Int)] 3)).alloc (.cells #[] 3)).drew.heap.size) := Lib.hid B3.out.size
          clear hE0 hI0 bz E0 I0
          go_wp2_with fail
          go_region_held3 (fun _ => True) (exact trivial) (first
            | (refine step_append_elts intE rfl (.tmp 50) (.tmp 53) rfl wz.heap.size (.slice (some ⟨wz.heap.size + 1, 0, none⟩) 0 0) vh [] T1 rfl rfl (by with_reducible exact A3.out) (HEH.out _ B3.out) HNH.out (by have := HT1l.out; simp only [List.length_nil]; omega) S3.out ?_
               intro r2 w2 ho2 hg2 _
               have HO2 : Hid (ownE intE w2 wz.heap.size r2 T1) := Lib.hid ho2
               have HW2 : Hid (Below wz.heap.size wz w2) := Lib.hid (below_own B3.out hg2 A3.out)
               have HIQ : Hid (eltsAt intE w2 (.slice (some ⟨wz.heap.size, 0, none⟩) 1 1) [(i : Int)]) := Lib.hid (I3.out.kept hg2.size fun a n c e => by cases e; exact hg2.block _ (by simp; omega) (by simp [Value.ownBlock]))
               have HWQ := Lib.hid HW2.out
               clear ho2 hg2)
            | (refine step_append_elts intE rfl (.tmp 50) (.tmp 53) rfl wz.heap.size (.slice (some ⟨wz.heap.size, 0, none⟩) 0 0) vh [] T1 rfl rfl (by with_reducible exact A2.out) (HEH.out _ B2.out) HNH.out (by have := HT1l.out; simp only [List.length_nil]; omega) S2.out ?_
               intro r2 w2 ho2 hg2 _
               have HO2 : Hid (ownE intE w2 wz.heap.size r2 T1) := Lib.hid ho2
               have HW2 : Hid (Below wz.heap.size wz w2) := Lib.hid (below_own B2.out hg2 A2.out)
               have HIQ : Hid (eltsAt intE w2 (.slice (some ⟨wz.heap.size + 1, 0, none⟩) 1 1) [(i : Int)]) := Lib.hid (I2.out.kept hg2.size fun a n c e => by cases e; exact hg2.block _ (by simp) (by simp [Value.ownBlock]))
               have HWQ := Lib.hid HW2.out
               clear ho2 hg2)
            | (refine step_append_elts intE rfl (.tmp 50) (.tmp 53) rfl wz.heap.size (.slice (some ⟨wz.heap.size, 0, none⟩) 0 0) vh [] T1 rfl rfl (by with_reducible exact A1.out) (HEH.out _ B1.out) HNH.out (by have := HT1l.out; simp only [List.length_nil]; omega) S1.out ?_
               intro r2 w2 ho2 hg2 _
               have HO1 : Hid (ownE intE w2 wz.heap.size r2 T1) := Lib.hid ho2
               have HW1 : Hid (Below wz.heap.size wz w2) := Lib.hid (below_own B1.out hg2 A1.out)
               have HO2 : Hid (ownE intE (w2.alloc (.cells #[.int .i64 (i : Int)] 3)) wz.heap.size r2 T1) := Lib.hid (HO1.out.alloc _)
               have HIQ : Hid (eltsAt intE (w2.alloc (.cells #[.int .i64 (i : Int)] 3)) (.slice (some ⟨w2.heap.size, 0, none⟩) 1 1) [(i : Int)]) := Lib.hid (one_elt intE w2 (i : Int))
               have HWQ : Hid (Below wz.heap.size wz (w2.alloc (.cells #[.int .i64 (i : Int)] 3))) := Lib.hid (HW1.out.alloc HW1.out.size _)
               clear ho2 hg2)
            | (refine step_append_elts intE rfl (.tmp 54) (.tmp 56) rfl wz.heap.size r2 _ T1 [(i : Int)] rfl rfl HO2.out HIQ.out (someNone _ _ _) (by have := HT1l.out; simp only [List.length_singleton]; omega) HWQ.out.size ?_
               intro r3 w3 ho3 hg3 _
               have HO3 : Hid (ownE intE w3 wz.heap.size r3 (T1 ++ [(i : Int)])) := Lib.hid ho3
               have HW3 : Hid (Below wz.heap.size wz w3) := Lib.hid (below_own HWQ.out hg3 HO2.out)
               clear ho3 hg3)
            | (refine step_append_elts intE rfl (.tmp 57) (.tmp 60) rfl wz.heap.size r3 vt (T1 ++ [(i : Int)]) T2 rfl rfl HO3.out (HET.out _ HW3.out) HNT.out (by have := HT1l.out; have := HT2l.out; simp only [List.length_append, List.length_singleton]; omega) HW3.out.size ?_
               intro r4 w4 ho4 hg4 _
               have HO4 : Hid (ownE intE w4 wz.heap.size r4 (T1 ++ [(i : Int)] ++ T2)) := Lib.hid ho4
               have HW4 : Hid (Below wz.heap.size wz w4) := Lib.hid (below_own HW3.out hg4 HO3.out)
               clear ho4 hg4))
          all_goals clear A1 A2 A3 I2 I3 S1 S2 S3 B1 B2 B3 HIQ HWQ hvh hvt
          all_goals go_wp2
          all_goals go_roundw
          all_goals try (case measure => simp [intOf]; omega)
          all_goals exact ⟨i + 1, d.take 0 ++ [i] ++ d.drop 0, by simp, hgo, ord_step HO.out (by omega) HHJ.out HLO.out, out_of HO4.out HT.out, HB.out.trans ((HGZ.out.below.trans (HW4.out.mono HGZ.out.below.size)).mono HB.out.size)⟩
        · obtain ⟨j, rfl⟩ : ∃ j, p = j + 1 := ⟨p - 1, by omega⟩
          have hjd : j < d.length := by omega
          obtain ⟨e, he⟩ : ∃ e, d[j] = e := ⟨_, rfl⟩
          have hei : e < i := by rw [← he]; exact HO.out.lt (List.getElem_mem hjd)
          have heL : e < L.length := by omega
          have HE := Lib.hid he
          obtain ⟨ad, rfl⟩ : ∃ ad, ar = some ad := by
            obtain ⟨_, _, e1, hc⟩ := HV.out
            obtain ⟨ad, e2, _⟩ := hc i (by simpa using hgo)
            exact ⟨ad, (Value.slice.inj e1).1.trans e2⟩
          obtain ⟨au, rfl⟩ : ∃ ad, ur = some ad := by
            obtain ⟨_, _, e1, hc⟩ := HU.out
            obtain ⟨ad, e2, _⟩ := hc i (by simpa using hgo)
            exact ⟨ad, (Value.slice.inj e1).1.trans e2⟩
          obtain ⟨ao, rfl⟩ : ∃ ad, oa = some ad := by
            obtain ⟨_, _, e1, hc⟩ := HEL.out
            obtain ⟨ad, e2, _⟩ := hc j (by simpa using hjd)
            exact ⟨ad, (Value.slice.inj e1).1.trans e2⟩
          have key : ∀ n os, Below w.heap.size w (grow (wr.drewN n) os) := fun n os => HBW.out.trans ((Grown.of wr n os).below.mono HBW.out.size)
          have key2 : ∀ n os, Below wo.heap.size wo (grow (wr.drewN n) os) := fun n os => (HGR.out.trans (Grown.of wr n os)).below
          obtain ⟨⟨a1, a2, a3⟩, ha⟩ : ∃ q, itOf L i = q := ⟨_, rfl⟩
          obtain ⟨⟨b1, b2, b3⟩, hb⟩ : ∃ q, itOf L e = q := ⟨_, rfl⟩
          have hai : L[i] = (a1, a2, a3) := by rw [← it_at hgo]; exact ha
          have hbi : L[e] = (b1, b2, b3) := by rw [← it_at heL]; exact hb
          have l0 : ∀ n os, (grow (wr.drewN n) os).cell? (ad.add (i * 2)) = some (.int .i64 a1) := fun n os => by
            have := (pairs_at HV.out (key n os) (k := i) (by simpa using hgo)).1
            rw [List.getElem_map, hai] at this; exact this
          have l1 : ∀ n os, (grow (wr.drewN n) os).cell? ⟨(ad.add (i * 2)).block, (ad.add (i * 2)).off + 1, none⟩ = some (.int .i64 a2) := fun n os => by
            have := (pairs_at HV.out (key n os) (k := i) (by simpa using hgo)).2
            rw [List.getElem_map, hai] at this; exact this
          have l2 : ∀ n os, (grow (wr.drewN n) os).cell? (ad.add (e * 2)) = some (.int .i64 b1) := fun n os => by
            have := (pairs_at HV.out (key n os) (k := e) (by simpa using heL)).1
            rw [List.getElem_map, hbi] at this; exact this
          have l3 : ∀ n os, (grow (wr.drewN n) os).cell? ⟨(ad.add (e * 2)).block, (ad.add (e * 2)).off + 1, none⟩ = some (.int .i64 b2) := fun n os => by
            have := (pairs_at HV.out (key n os) (k := e) (by simpa using heL)).2
            rw [List.getElem_map, hbi] at this; exact this
          have n0 : ∀ n os, (grow (wr.drewN n) os).cell? (au.add i) = some (.int .i64 a3) := fun n os => by
            have := ints_cell HU.out (key n os) (k := i) (by simpa using hgo)
            rw [List.getElem_map, hai] at this; exact this
          have n1 : ∀ n os, (grow (wr.drewN n) os).cell? (au.add e) = some (.int .i64 b3) := fun n os => by
            have := ints_cell HU.out (key n os) (k := e) (by simpa using heL)
            rw [List.getElem_map, hbi] at this; exact this
          have o0 : ∀ n os, (grow (wr.drewN n) os).cell? (ao.add j) = some (.int .i64 (e : Int)) := fun n os => by
            have := ints_cell HEL.out (key2 n os) (k := j) (by simpa using hjd)
            rw [List.getElem_map, HE.out] at this; exact this
          have cG : ∀ n os, Calls Try.prog 14 #[.pointer (some ⟨K, 0, none⟩), .agg #[.int .i64 a1, .int .i64 a2], .int .i64 a3, .agg #[.int .i64 b1, .int .i64 b2], .int .i64 b3] (grow (wr.drewN n) os) fun e w'' => e = .returned (.bool (betterOf J (a1, a2, a3) (b1, b2, b3))) ∧ ∃ p : GrownBy, w'' = grow (wr.drewN p.n) p.os := fun n os => Calls.grown_of (rbetter_any base K tv tp J a1 a2 a3 b1 b2 b3 _ (H.out.below (key n os)) HG.out hJ)
          have HLT : Hid (ltI J L i (d[j]'hjd) = betterOf J (a1, a2, a3) (b1, b2, b3)) := Lib.hid (by unfold ltI; rw [HE.out, ha, hb])
          have hpI : (0 : Int) < (j : Int) + 1 := by omega
          have hjI : (j : Int) < (d.length : Int) := by omega
          have heI : (e : Int) < (L.length : Int) := by omega
          have hwj : IntKind.i64.wrap (j : Int) = (j : Int) := by rw [IntKind.wrap_i64]; omega
          have hpB : decide ((0 : Int) < (j : Int) + 1) = true := decide_eq_true hpI
          clear key key2 ha hb hai hbi he
          cases tb : betterOf J (a1, a2, a3) (b1, b2, b3) with
          | true =>
            rw [tb] at cG HLT
            go_wp2_with fail
            go_quiet_grown (first | (go_at_call 14; refine cG _ _))
            have HGZ : Hid (Grown wo (grow (wr.drewN nq) osq)) := Lib.hid (HGR.out.trans (Grown.of _ _ _))
            clear l0 l1 l2 l3 n0 n1 o0 cG
            generalize grow (wr.drewN nq) osq = wz at *
            go_wp2
            go_roundw
            case rel =>
              refine ⟨j, ?_, by omega, fun k hk hjk => ?_, HGZ.out⟩
              · simp
              · by_cases ek : k = j
                · subst ek; exact HLT.out
                · exact HHI.out k hk (by omega)
            case measure => simp [intOf]
          | false =>
            rw [tb] at cG HLT
            go_wp2_with fail
            go_quiet_grown (first | (go_at_call 14; refine cG _ _))
            have HGZ : Hid (Grown wo (grow (wr.drewN nq) osq)) := Lib.hid (HGR.out.trans (Grown.of _ _ _))
            have HLO : Hid (StopAt J L i d (j + 1)) := Lib.hid (.inr ⟨hjd, HLT.out⟩)
            have HHJ : Aside (∀ k (hk : k < d.length), j + 1 ≤ k → ltI J L i d[k] = true) := HHI.out
            clear l0 l1 l2 l3 n0 n1 o0 cG
            generalize grow (wr.drewN nq) osq = wz at *
            obtain ⟨vh, hvh, nh, eh⟩ := ints_head (some ao) d.length oc (j + 1) ((j : Int) + 1) (by omega) (by omega) HNN.out
            obtain ⟨vt, hvt, nt, et⟩ := ints_tail (some ao) d.length oc (j + 1) ((j : Int) + 1) (by omega) (by omega) hoc HNN.out
            obtain ⟨T1, hT1⟩ : ∃ T1, T1 = (d.map Int.ofNat).take (j + 1) := ⟨_, rfl⟩
            obtain ⟨T2, hT2⟩ : ∃ T2, T2 = (d.map Int.ofNat).drop (j + 1) := ⟨_, rfl⟩
            have HT1l : Hid (T1.length ≤ 1000) := Lib.hid (by rw [hT1, List.length_take, List.length_map]; omega)
            have HT2l : Hid (T2.length ≤ 1000) := Lib.hid (by rw [hT2, List.length_drop, List.length_map]; omega)
            have HEH : Hid (∀ W, Below wz.heap.size wz W → eltsAt intE W vh T1) := Lib.hid (fun W hW => by rw [hT1]; exact eh W _ (HEL.out.below (HGZ.out.below.trans (hW.mono HGZ.out.below.size)) (Nat.le_refl _)) (by rw [List.length_map]; omega))
            have HET : Hid (∀ W, Below wz.heap.size wz W → eltsAt intE W vt T2) := Lib.hid (fun W hW => by rw [hT2]; exact et W _ (HEL.out.below (HGZ.out.below.trans (hW.mono HGZ.out.below.size)) (Nat.le_refl _)))
            have HNH := Lib.hid nh
            have HNT := Lib.hid nt
            have HT := Lib.hid (And.intro hT1 hT2)
            clear eh et nh nt hT1 hT2
            obtain ⟨E0, hE0⟩ : ∃ E0 : Obj, E0 = .cells #[] 3 := ⟨_, rfl⟩
            obtain ⟨I0, hI0⟩ : ∃ I0 : Obj, I0 = .cells #[.int .i64 (i : Int)] 3 := ⟨_, rfl⟩
            have bz := Below.refl wz.heap.size wz
            have B1 : Hid (Below wz.heap.size wz (wz.alloc (.cells #[] 3)).drew) := Lib.hid (bz.alloc (Nat.le_refl _) _).drew
            have B2 : Hid (Below wz.heap.size wz ((wz.alloc (.cells #[] 3)).alloc (.cells #[.int .i64 (i : Int)] 3)).drew) := Lib.hid ((bz.alloc (Nat.le_refl _) _).alloc (by simp) _).drew
            have B3 : Hid (Below wz.heap.size wz ((wz.alloc (.cells #[.int .i64 (i : Int)] 3)).alloc (.cells #[] 3)).drew) := Lib.hid ((bz.alloc (Nat.le_refl _) _).alloc (by simp) _).drew
            have A1 : Hid (ownE intE (wz.alloc (.cells #[] 3)).drew wz.heap.size (.slice (some ⟨wz.heap.size, 0, none⟩) 0 0) []) := Lib.hid (own0 wz).drew
            have A2 : Hid (ownE intE ((wz.alloc (.cells #[] 3)).alloc (.cells #[.int .i64 (i : Int)] 3)).drew wz.heap.size (.slice (some ⟨wz.heap.size, 0, none⟩) 0 0) []) := Lib.hid ((own0 wz).alloc _).drew
            have A3 : Hid (ownE intE ((wz.alloc (.cells #[.int .i64 (i : Int)] 3)).alloc (.cells #[] 3)).drew wz.heap.size (.slice (some ⟨wz.heap.size + 1, 0, none⟩) 0 0) []) := Lib.hid (by
              have := ((own0 (wz.alloc (.cells #[.int .i64 (i : Int)] 3))).mono (b' := wz.heap.size) (by simp)).drew
              rwa [World.size_alloc] at this)
            have I2 : Hid (eltsAt intE ((wz.alloc (.cells #[] 3)).alloc (.cells #[.int .i64 (i : Int)] 3)).drew (.slice (some ⟨wz.heap.size + 1, 0, none⟩) 1 1) [(i : Int)]) := Lib.hid (by
              have := (one_elt intE (wz.alloc (.cells #[] 3)) (i : Int)).drew 1
              rwa [World.size_alloc] at this)
            have I3 : Hid (eltsAt intE ((wz.alloc (.cells #[.int .i64 (i : Int)] 3)).alloc (.cells #[] 3)).drew (.slice (some ⟨wz.heap.size, 0, none⟩) 1 1) [(i : Int)]) := Lib.hid (((one_elt intE wz (i : Int)).below ((Below.refl _ _).alloc (Nat.le_refl _) (.cells #[] 3)) (Nat.le_refl _)).drew 1)
            have S1 : Hid (wz.heap.size ≤ (wz.alloc (.cells #[] 3)).drew.heap.size) := Lib.hid B1.out.size
            have S2 : Hid (wz.heap.size ≤ ((wz.alloc (.cells #[] 3)).alloc (.cells #[.int .i64 (i : Int)] 3)).drew.heap.size) := Lib.hid B2.out.size
            have S3 : Hid (wz.heap.size ≤ ((wz.alloc (.cells #[.int .i64 (i : Int)] 3)).alloc (.cells #[] 3)).drew.heap.size) := Lib.hid B3.out.size
            clear hE0 hI0 bz E0 I0
            go_wp2_with fail
            go_region_held3 (fun _ => True) (exact trivial) (first
              | (refine step_append_elts intE rfl (.tmp 50) (.tmp 53) rfl wz.heap.size (.slice (some ⟨wz.heap.size + 1, 0, none⟩) 0 0) vh [] T1 rfl rfl (by with_reducible exact A3.out) (HEH.out _ B3.out) HNH.out (by have := HT1l.out; simp only [List.length_nil]; omega) S3.out ?_
                 intro r2 w2 ho2 hg2 _
                 have HO2 : Hid (ownE intE w2 wz.heap.size r2 T1) := Lib.hid ho2
                 have HW2 : Hid (Below wz.heap.size wz w2) := Lib.hid (below_own B3.out hg2 A3.out)
                 have HIQ : Hid (eltsAt intE w2 (.slice (some ⟨wz.heap.size, 0, none⟩) 1 1) [(i : Int)]) := Lib.hid (I3.out.kept hg2.size fun a n c e => by cases e; exact hg2.block _ (by simp; omega) (by simp [Value.ownBlock]))
                 have HWQ := Lib.hid HW2.out
                 clear ho2 hg2)
              | (refine step_append_elts intE rfl (.tmp 50) (.tmp 53) rfl wz.heap.size (.slice (some ⟨wz.heap.size, 0, none⟩) 0 0) vh [] T1 rfl rfl (by with_reducible exact A2.out) (HEH.out _ B2.out) HNH.out (by have := HT1l.out; simp only [List.length_nil]; omega) S2.out ?_
                 intro r2 w2 ho2 hg2 _
                 have HO2 : Hid (ownE intE w2 wz.heap.size r2 T1) := Lib.hid ho2
                 have HW2 : Hid (Below wz.heap.size wz w2) := Lib.hid (below_own B2.out hg2 A2.out)
                 have HIQ : Hid (eltsAt intE w2 (.slice (some ⟨wz.heap.size + 1, 0, none⟩) 1 1) [(i : Int)]) := Lib.hid (I2.out.kept hg2.size fun a n c e => by cases e; exact hg2.block _ (by simp) (by simp [Value.ownBlock]))
                 have HWQ := Lib.hid HW2.out
                 clear ho2 hg2)
              | (refine step_append_elts intE rfl (.tmp 50) (.tmp 53) rfl wz.heap.size (.slice (some ⟨wz.heap.size, 0, none⟩) 0 0) vh [] T1 rfl rfl (by with_reducible exact A1.out) (HEH.out _ B1.out) HNH.out (by have := HT1l.out; simp only [List.length_nil]; omega) S1.out ?_
                 intro r2 w2 ho2 hg2 _
                 have HO1 : Hid (ownE intE w2 wz.heap.size r2 T1) := Lib.hid ho2
                 have HW1 : Hid (Below wz.heap.size wz w2) := Lib.hid (below_own B1.out hg2 A1.out)
                 have HO2 : Hid (ownE intE (w2.alloc (.cells #[.int .i64 (i : Int)] 3)) wz.heap.size r2 T1) := Lib.hid (HO1.out.alloc _)
                 have HIQ : Hid (eltsAt intE (w2.alloc (.cells #[.int .i64 (i : Int)] 3)) (.slice (some ⟨w2.heap.size, 0, none⟩) 1 1) [(i : Int)]) := Lib.hid (one_elt intE w2 (i : Int))
                 have HWQ : Hid (Below wz.heap.size wz (w2.alloc (.cells #[.int .i64 (i : Int)] 3))) := Lib.hid (HW1.out.alloc HW1.out.size _)
                 clear ho2 hg2)
              | (refine step_append_elts intE rfl (.tmp 54) (.tmp 56) rfl wz.heap.size r2 _ T1 [(i : Int)] rfl rfl HO2.out HIQ.out (someNone _ _ _) (by have := HT1l.out; simp only [List.length_singleton]; omega) HWQ.out.size ?_
                 intro r3 w3 ho3 hg3 _
                 have HO3 : Hid (ownE intE w3 wz.heap.size r3 (T1 ++ [(i : Int)])) := Lib.hid ho3
                 have HW3 : Hid (Below wz.heap.size wz w3) := Lib.hid (below_own HWQ.out hg3 HO2.out)
                 clear ho3 hg3)
              | (refine step_append_elts intE rfl (.tmp 57) (.tmp 60) rfl wz.heap.size r3 vt (T1 ++ [(i : Int)]) T2 rfl rfl HO3.out (HET.out _ HW3.out) HNT.out (by have := HT1l.out; have := HT2l.out; simp only [List.length_append, List.length_singleton]; omega) HW3.out.size ?_
                 intro r4 w4 ho4 hg4 _
                 have HO4 : Hid (ownE intE w4 wz.heap.size r4 (T1 ++ [(i : Int)] ++ T2)) := Lib.hid ho4
                 have HW4 : Hid (Below wz.heap.size wz w4) := Lib.hid (below_own HW3.out hg4 HO3.out)
                 clear ho4 hg4))
            all_goals clear A1 A2 A3 I2 I3 S1 S2 S3 B1 B2 B3 HIQ HWQ hvh hvt
            all_goals go_wp2
            all_goals go_roundw
            all_goals try (case measure => simp [intOf]; omega)
            all_goals exact ⟨i + 1, d.take (j + 1) ++ [i] ++ d.drop (j + 1), by simp, hgo, ord_step HO.out (by omega) HHJ.out HLO.out, out_of HO4.out HT.out, HB.out.trans ((HGZ.out.below.trans (HW4.out.mono HGZ.out.below.size)).mono HB.out.size)⟩
    · have hgoI : ¬ (i : Int) < (L.length : Int) := by omega
      have hil : i = L.length := by omega
      go_wp2
      go_ret
      exact ⟨_, d, rfl, by rw [← hil]; exact HO.out, ⟨HEL.out, HNN.out, oa, oc, rfl, hoc⟩, HB.out⟩
end Go.Proofs.Ythjblamfkfclhaa
