/- pair.Sort. -/
import Derived.Test.YthjblamfkfclhaaSStable
import Derived.Test.YthjblamfkfclhaaOrd
import Derived.Laws.CopyRow
namespace Go.Proofs.Ythjblamfkfclhaa
open Go.RowKit Go.Maps Go.Shelf
open Go.Sort (grow SWO PermIn SortedIn HoldsK)

/-! Copies of rows of structs. -/
theorem run_copy_elts {α : Type} (R : Elt α) {w : World} (ty : TypeId) {g cap sCap : Nat} {ad : Addr} {L Z : List α} (hr : rowE R w g Z) (hz : Z.length = L.length) (hL : eltsAt R w (.slice (some ad) L.length sCap) L) :
    ∃ w', (Builtin.copy_ #[R.sl, R.sl] ty #[.slice (some ⟨g, 0, none⟩) L.length cap, .slice (some ad) L.length sCap]).run Try.prog w = .ok (.int .i64 (L.length : Int)) w' ∧ rowE R w' g L ∧ w.grownBy w' (some g) := by
  obtain ⟨cs, hg, h1⟩ := hr
  obtain ⟨a, cap', e, hc⟩ := hL
  cases e
  have hlen := ecells_len (R := R) L
  have hsz : cs.size = L.length * R.n := by rw [← hz, ← ecells_len (R := R) Z, ← h1]; simp
  have hsrc : ∀ j u, (ecells R L)[j]? = some u → w.cell? (ad.add j) = some u := by
    intro i u hu
    have hi : i < L.length * R.n := by have := (List.getElem?_eq_some_iff.1 hu).1; rwa [ecells_len] at this
    have hq : i / R.n < L.length := Nat.div_lt_of_lt_mul (by rw [Nat.mul_comm]; exact hi)
    have hm : i % R.n < R.n := Nat.mod_lt _ R.pos
    have he : i / R.n * R.n + i % R.n = i := by rw [Nat.mul_comm]; exact Nat.div_add_mod i R.n
    obtain ⟨ad', e, _, h1⟩ := hc (i / R.n) hq
    cases e
    have h2 := ecells_at L hq hm
    rw [he, hu] at h2
    have h3 := h1 (i % R.n) u h2.symm
    rwa [he] at h3
  have hl := run_loadCells_list (P := Try.prog) w ad (ecells R L) hsrc
  have hst := run_storeCells_at Try.prog g 0 R.ty (ecells R L) 0 cs w hg (by rw [hlen, hsz]; omega) (ecells_one L)
  obtain ⟨i0, hi, hz0, hz1, hz2⟩ := info_parts R.info
  have hrow : (cs.toList.take (0 + 0) ++ ecells R L ++ cs.toList.drop (0 + 0 + (ecells R L).length)) = ecells R L := by
    rw [Nat.add_zero, List.take_zero, List.nil_append, Nat.zero_add, List.drop_of_length_le (by simp [hlen, hsz]), List.append_nil]
  rw [hrow] at hst
  rw [hlen] at hl
  refine ⟨w.setRow g (ecells R L).toArray, ?_, ⟨_, setRow_heap w g cs _ R.ty (0, 0) hg, by simp⟩, ⟨rfl, rfl, rfl, by simp [World.setRow], fun k _ hne => setRow_other w g k _ (fun e => hne (by rw [e]))⟩⟩
  have hmin : Nat.min L.length L.length = L.length := Nat.min_self _
  simp [Builtin.copy_, run_underlying R.under, Builtin.lenOf, Builtin.firstCells, sizeOf, typeInfo, hi, hz1, hmin, hl, hst, goInt]

/-! The row of a sort. -/
def itOf (L : List Item) (i : Nat) : Item := L.getD i (0, 0, 0)
def encI (L : List Item) (i : Nat) : List Value := itemE.enc (itOf L i)
def cfI (J : List Joint) (L : List Item) (i j : Nat) : Int := icmp J (itOf L i) (itOf L j)
def ltI (J : List Joint) (L : List Item) (i j : Nat) : Bool := betterOf J (itOf L i) (itOf L j)
theorem ltI_cf (J : List Joint) (L : List Item) : ltOf (cfI J L) = ltI J L := rfl
theorem ltI_swo (J : List Joint) (L : List Item) : SWO (ltI J L) where
  irrefl _ := better_swo.irrefl _
  trans _ _ _ := better_swo.trans _ _ _
  ntrans _ _ _ := better_swo.ntrans _ _ _
theorem it_fits {L : List Item} (hf : ∀ q ∈ L, FitsI q) (i : Nat) : FitsI (itOf L i) := by
  unfold itOf
  rw [List.getD_eq_getElem?_getD]
  cases e : L[i]? with
  | none => exact ⟨⟨by decide, by decide⟩, ⟨by decide, by decide⟩, ⟨by decide, by decide⟩⟩
  | some q => exact hf q (List.mem_of_getElem? e)
theorem it_at {L : List Item} {i : Nat} (h : i < L.length) : itOf L i = L[i] := by simp [itOf, List.getD_eq_getElem?_getD, h]
theorem range_get (n : Nat) {p : Nat} (h : p < n) : (Array.range n)[p]! = p := by simp [h]
theorem holdsI {w : World} {g : Nat} {L : List Item} (h : rowE itemE w g L) : HoldsK (encI L) 3 w g 0 (Array.range L.length) := by
  intro j hj
  have hj' : j < L.length * 3 := by simpa using hj
  have hq : j / 3 < L.length := by omega
  have he : j / 3 * 3 + j % 3 = j := by omega
  obtain ⟨h1, h2⟩ := h.cells (j := j / 3) (i := j % 3) hq (by show j % 3 < 3; omega)
  rw [show itemE.n = 3 from rfl, he] at h1 h2
  refine ⟨?_, by rw [Nat.zero_add]; exact h2⟩
  rw [Nat.zero_add, h1, Sort.get_flatK _ _ _ _ (by simpa using hj'), range_get _ hq]
  unfold encI
  rw [it_at hq]
  have hlen : j % 3 < (itemE.enc L[j / 3]).length := by rw [itemE.len]; show j % 3 < 3; omega
  show _ = some (itemE.enc L[j / 3])[j % 3]!
  rw [getElem!_pos (itemE.enc L[j / 3]) (j % 3) hlen, List.getElem?_eq_getElem hlen]
theorem SWK.keeps {enc : Nat → List Value} {k : Nat} {w0 W : World} {blk off : Nat} {dk : Array Nat} (h : SWK enc k w0 blk off dk W) : w0.grownBy W (some blk) := by
  obtain ⟨n, os, rfl⟩ := h
  refine ⟨rfl, rfl, rfl, by unfold sortWorldK; simp [Sort.putRowK], fun i hi hne => ?_⟩
  unfold sortWorldK Sort.putRowK
  rw [Sort.heap_grow_old _ _ (by simpa using hi)]
  have hne' : blk ≠ i := fun e => hne (by rw [e])
  simp [Sort.putRow, Sort.mapBlock, Sort.ahead, Array.getElem?_modify, hne']
/-- d is the places of L, the better ones first, those that are alike in their order. -/
def Sorted (J : List Joint) (L : List Item) (d : List Nat) : Prop := d.Perm (List.range L.length) ∧ d.Pairwise fun i j => lex (ltI J L) i j = true
theorem sorted_of {J : List Joint} {L : List Item} {d : Array Nat} (h : MOut (ltI J L) 0 L.length (Array.range L.length) d) : Sorted J L d.toList := by
  obtain ⟨⟨h1, _, h3⟩, h4⟩ := h
  have hs : d.size = L.length := by simpa using h1
  have hp : d.toList.Perm (List.range L.length) := by
    have e1 : d.extract 0 L.length = d := by rw [← hs]; simp
    have e2 : (Array.range L.length).extract 0 L.length = Array.range L.length := by
      have := Array.extract_size (xs := Array.range L.length)
      rwa [Array.size_range] at this
    rw [e1, e2, Array.toList_range] at h3
    exact h3
  refine ⟨hp, List.pairwise_iff_getElem.2 fun i j hi hj hij => ?_⟩
  have hi' : i < d.size := by simpa using hi
  have hj' : j < d.size := by simpa using hj
  have hnd : d.toList.Nodup := hp.nodup_iff.2 List.nodup_range
  have h5 := h4 i j (Nat.zero_le _) hij (by omega)
  rw [getElem!_pos d i hi', getElem!_pos d j hj'] at h5
  have e : d.toList[i] = d[i] := by simp
  have e' : d.toList[j] = d[j] := by simp
  rw [e, e']
  rcases lex_or h5 with k | k
  · exact absurd (by rw [e, e', k]) (List.pairwise_iff_getElem.1 hnd i j hi hj hij)
  · exact k
/-- What Sort tells: a new row. -/
def SortRet (J : List Joint) (L : List Item) (w : World) (e : Ending) (w' : World) : Prop :=
  ∃ g d, e = .returned (.slice (some ⟨g, 0, none⟩) L.length L.length) ∧ eltsAt itemE w' (.slice (some ⟨g, 0, none⟩) L.length L.length) (d.map (itOf L)) ∧ Sorted J L d ∧ Below w.heap.size w w'
theorem cmpI_lays {w0 : World} {K c g n : Nat} {v : Value} {b : Option Nat} {J : List Joint} {L : List Item} (h : Env w0 K v b J c) (hf : ∀ q ∈ L, FitsI q) (hg : ∀ k, mineT K v b k ∨ k = c → k ≠ g) : CmpLays Try.prog 31 #[.pointer (some ⟨c, 0, none⟩)] (encI L) 3 (cfI J L) g 0 n w0 := by
  intro m os dk _ x y
  have hk : w0.grownBy (sortWorldK (encI L) 3 w0 g 0 m dk os) (some g) := SWK.keeps ⟨m, os, rfl⟩
  exact closure_any K v b J c (itOf L x) (itOf L y) _ (h.kept fun k h1 h2 => hk.block k h1 fun e => hg k h2 (Option.some.inj e)) (it_fits hf x) (it_fits hf y)
theorem sort_elts {w0 w' : World} {g : Nat} {L : List Item} {d : Array Nat} (R : RowK (encI L) 3 w0 g 0 (Array.range L.length)) (S : SWK (encI L) 3 w0 g 0 d w') (hs : d.size = L.length) : eltsAt itemE w' (.slice (some ⟨g, 0, none⟩) L.length L.length) (d.toList.map (itOf L)) := by
  have hH := S.holds R.hblk R.hH (by simpa using hs)
  have hlen : (d.toList.map (itOf L)).length = L.length := by simp [hs]
  refine ⟨some ⟨g, 0, none⟩, L.length, by rw [hlen], fun j hj => ⟨_, rfl, S.lt R.hblk, fun i u hu => ?_⟩⟩
  have hj' : j < d.size := by rw [hs]; rwa [hlen] at hj
  have := Go.Proofs.HoldsK.cells hH R.hk hj' i u (by
    unfold encI
    rw [getElem!_pos d j hj']
    simpa using hu)
  rw [Addr.add_lit, Nat.zero_add] at this
  rw [add_zero_off, show itemE.n = 3 from rfl]
  exact this
set_option maxHeartbeats 2000000 in
theorem psort_any (K : Nat) (v : Value) (b : Option Nat) (J : List Joint) (x : Value) (L : List Item) (w : World) (h : Stab w K v b J) (hJ : J.length ≤ 1000000) (hx : eltsAt itemE w x L) (hnil : nilNone x) (hL : L.length < 1000000) (hf : ∀ q ∈ L, FitsI q) :
    Calls Try.prog 9 #[.pointer (some ⟨K, 0, none⟩), x] w fun e w' => SortRet J L w e w' := by
  have H := Lib.hid h
  have HX := Lib.hid hx
  have HF := Lib.hid hf
  have HN := Lib.hid hnil
  obtain ⟨a, cap, rfl, hc⟩ := hx
  have HC := Lib.hid hc
  obtain ⟨i0, hi, hz0, hz1, hz2⟩ := info_parts itemE.info
  have hz2' : i0.bytes = 24 := hz2
  clear h hf hnil hc
  -- behind the copy: the sort
  have tail : ∀ w2, rowE itemE w2 w.heap.size L → Below w.heap.size w w2 → Stab w2 K v b J → Calls Try.prog 20 #[.slice (some ⟨w.heap.size, 0, none⟩) L.length L.length, .func (.func 31) #[] #[.pointer (some ⟨w2.heap.size, 0, none⟩)]] (w2.alloc (.cells #[.pointer (some ⟨K, 0, none⟩)] 25)) fun e w' =>
      e = .returned (.tuple #[]) ∧ SortRet J L w (.returned (.slice (some ⟨w.heap.size, 0, none⟩) L.length L.length)) w' := by
    intro w2 hr2 hb2 hs2
    have hlt2 := hr2.lt
    have hr3 : rowE itemE (w2.alloc (.cells #[.pointer (some ⟨K, 0, none⟩)] 25)) w.heap.size L := hr2.kept (Below.heap_alloc _ _ _ hlt2)
    have hR : RowK (encI L) 3 (w2.alloc (.cells #[.pointer (some ⟨K, 0, none⟩)] 25)) w.heap.size 0 (Array.range L.length) := ⟨fun _ => rfl, fun i => itemE.one (itOf L i), holdsI hr3, hr3.lt⟩
    have hcm := cmpI_lays (n := (Array.range L.length).size) (env_new hs2 hJ) HF.out (g := w.heap.size) (fun k hk => by
      rcases hk with hk | hk
      · have := H.out.lt k hk; omega
      · omega)
    have := sortStable_any stLays (encI L) (cfI J L) 31 #[.pointer (some ⟨w2.heap.size, 0, none⟩)] w.heap.size 0 L.length (Array.range L.length) _ (enters_of Try.func31 (by kernel_rfl) rfl) hcm (by rw [ltI_cf]; exact ltI_swo J L) hR (fun p hp => range_get _ (by simpa using hp)) (by simpa using hL)
    rw [Array.size_range] at this
    refine this.mono ?_
    rintro e w' ⟨rfl, d, S, hd⟩
    rw [ltI_cf] at hd
    have hds : d.size = L.length := by have := hd.1.1; simpa using this
    refine ⟨rfl, w.heap.size, d.toList, rfl, sort_elts hR S hds, sorted_of hd, ?_⟩
    have hk := SWK.keeps S
    have hb3 : Below w.heap.size w (w2.alloc (.cells #[.pointer (some ⟨K, 0, none⟩)] 25)) := hb2.alloc hb2.size _
    exact hb3.grown hk (by have := hb3.size; exact this) fun k e => by cases e; exact Nat.le_refl _
  have TAIL := Lib.hid tail
  clear tail
  have HCP : Hid (∀ w1, rowE itemE w1 w.heap.size (List.replicate L.length (0, 0, 0)) → Below w.heap.size w w1 → ∃ w2, (Builtin.copy_ #[23, 23] 3 #[.slice (some ⟨w.heap.size, 0, none⟩) L.length L.length, .slice a L.length cap]).run Try.prog w1 = .ok (.int .i64 (L.length : Int)) w2 ∧ rowE itemE w2 w.heap.size L ∧ Below w.heap.size w w2) := Lib.hid (by
    intro w1 hr1 hb1
    cases a with
    | none =>
      have hL0 : L = [] := by
        cases L with
        | nil => rfl
        | cons q r => obtain ⟨ad, e, _⟩ := HC.out 0 (by simp); cases e
      subst hL0
      have hc0 : cap = 0 := HN.out _ _ rfl
      subst hc0
      exact ⟨w1, run_copy_nil Try.prog w1 23 23 3 33 _ 0 0 Try.underlying23 (by kernel_rfl), hr1, hb1⟩
    | some ad =>
      obtain ⟨w2, h1, h2, h3⟩ := run_copy_elts itemE 3 (cap := L.length) hr1 (by simp) (HX.out.below hb1 (Nat.le_refl _))
      exact ⟨w2, h1, h2, hb1.grown h3 hb1.size fun k e => by cases e; exact Nat.le_refl _⟩)
  clear HX HC HN
  go_enter Try.func9, Try.ntmps9
  go_wp2_with (at_make; refine wpList_make_full _ rfl _ _ 23 rfl w.heap.size 33 i0 itemE.zero 3 Try.underlying23 hi hz0 hz1 .i64 .i64 _ _ L.length rfl rfl rfl rfl (by rw [hz2']; omega) (by unfold maxLen; omega) (Nat.le_refl _) ?_; intro w1 hown1 hgr1; have HR1 : Hid (rowE itemE w1 w.heap.size (List.replicate L.length (0, 0, 0))) := Lib.hid (rowE_made itemE (0, 0, 0) rfl hown1); have HB1 : Hid (Below w.heap.size w w1) := Lib.hid ((Below.refl w.heap.size w).grown hgr1 (Nat.le_refl _) fun g hg => by cases hg); clear hown1 hgr1; obtain ⟨w2, hcp, hr2, hb2⟩ := HCP.out w1 HR1.out HB1.out; have HR2 := Lib.hid hr2; have HB2 := Lib.hid hb2; clear hr2 hb2)
  refine (betterFirst_any K w2).mono ?_
  rintro e w3 ⟨rfl, rfl⟩
  have cS := TAIL.out w2 HR2.out HB2.out (H.out.below HB2.out)
  unfold closV
  go_wp2_with fail
  refine cS.mono ?_
  rintro e w4 ⟨rfl, hr⟩
  have HR := Lib.hid hr
  clear hr cS hcp
  go_wp2
  go_ret
  exact HR.out
end Go.Proofs.Ythjblamfkfclhaa
