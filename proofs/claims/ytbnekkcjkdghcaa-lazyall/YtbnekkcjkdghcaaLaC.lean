/- The laws' contracts: of a queue and what is live, side by side. -/
import Derived.Test.YtbnekkcjkdghcaaArgL
import Derived.Test.YtbnekkcjkdghcaaCnAdd
namespace Go.Proofs.Ytbnekkcjkdghcaa
open Go.RowKit Go.Maps Go.Shelf
open Go.Sort (grow grow_empty grow_grow alloc_eq_grow heap_grow_old)
variable {w w' wr w1 : World} {K Kl Nl T : Nat} {v u : Value} {L L' : Cn} {tv : Value} {tb : Option Nat} {J : List Joint} {q q' : Qm} {S S' : Nat → Prop}
variable {Bx : List (Nat × Obj)} {X X' : Ob} {Sq Sl Sx Sq' Sl' Sx' : Nat → Prop}

set_option maxRecDepth 100000 in
theorem LvIn.grown (h : LvIn w K Nl v u L) (g : Grown w w') : LvIn w' K Nl v u L := h.kept fun k a _ => g.below.block k a
set_option maxRecDepth 100000 in
theorem LvIn.cell (h : LvIn w K Nl v u L) : w.cell? ⟨Nl, 0, none⟩ = some (.pointer (some ⟨K, 0, none⟩)) := by
  rw [cell_of_row w Nl 0 _ 39 (0, 0) h.box]; rfl
set_option maxRecDepth 100000 in
theorem LvIn.get (h : LvIn w K Nl v u L) (a b : Int) : Calls Try.prog 13 #[.pointer (some ⟨K, 0, none⟩), .agg #[.int .i64 a, .int .i64 b]] w fun e w' => e = .returned (.int .i64 (getC L (a, b))) ∧ Grown w w' :=
  (rget_any 0 K 0 _ _ v u L a b w h.cnt (by have := h.few; omega)).mono fun e w' he => by
    obtain ⟨e1, n, rfl⟩ := he
    exact ⟨e1, ((Grown.refl w).alloc _).drewN n⟩
set_option maxRecDepth 100000 in
theorem LvIn.add (h : LvIn w K Nl v u L) (a b c t : Int) (hp : FitsPr (a, b)) (hc : FitsZ c) (ht : FitsZ t) (hl : (addC L (a, b) c t).1.length ≤ 1000) : Calls Try.prog 12 #[.pointer (some ⟨K, 0, none⟩), .agg #[.int .i64 a, .int .i64 b], .int .i64 c, .int .i64 t] w fun e w' => e = .returned (.int .i64 (addC L (a, b) c t).2) ∧ ∃ v' u', LvIn w' K Nl v' u' (addC L (a, b) c t).1 ∧ Stp (mineV K Nl v u) (mineV K Nl v' u') w w' :=
  (dradd_any 0 K 0 _ _ v u L a b c t w h.cnt h.good hc ht h.few).mono fun e w' he => by
    obtain ⟨e1, v', u', r1, r2, r3⟩ := he
    have hne : Nl ≠ K := fun e => by
      have h1 := h.box
      rw [e, h.cnt.box] at h1
      cases h1
    refine ⟨e1, v', u', ⟨r1, (r2.block Nl (h.lt Nl (.inr rfl)) hne).trans h.box, h.good.add hp c t, hl⟩, (Kept.refl (mineV K Nl v u) w).trans r2 fun k _ hk => .inl (.inl hk), fun k hk hlt => ?_⟩
    rcases hk with (hk | hk | hk) | hk
    · exact .inl (.inl hk)
    · exact .inl (.inr (r3 k (.inl hk) hlt))
    · exact .inl (.inr (r3 k (.inr hk) hlt))
    · exact .inr hk
set_option maxRecDepth 100000 in
theorem live_LazyPlays_1 (K Nl : Nat) (v u : Value) (L : Cn) : LiveF 15 #[.pointer (some ⟨Nl, 0, none⟩)] (getC L) (fun W => LvIn W K Nl v u L) (mineV K Nl v u) where
  enter := enters_of Try.func15 (by kernel_rfl) rfl
  calls := fun a b w hf h => by
    obtain ⟨N, hN⟩ : ∃ N, w.heap.size = N := ⟨_, rfl⟩
    obtain ⟨wa, hwa⟩ : ∃ wa, w.alloc (.cells #[.int .i64 a, .int .i64 b] 41) = wa := ⟨_, rfl⟩
    have hg : Grown w wa := by rw [← hwa]; exact (Grown.refl w).alloc _
    have hba : wa.heap[N]? = some (.cells #[.int .i64 a, .int .i64 b] 41 (0, 0)) := by rw [← hwa, ← hN]; exact heap_alloc_new w _
    have n0 : wa.cell? ⟨N, 0, none⟩ = some (.int .i64 a) := by rw [cell_of_row wa N _ _ 41 (0, 0) hba]; rfl
    have n1 : wa.cell? ⟨N, 1, none⟩ = some (.int .i64 b) := by rw [cell_of_row wa N _ _ 41 (0, 0) hba]; rfl
    have hL := h.grown hg
    have l0 := hL.cell
    have cG := hL.get a b
    have HG := Lib.hid hg
    clear h hg hba hL hf
    show Calls Try.prog 15 #[.agg #[.int .i64 a, .int .i64 b], .pointer (some ⟨Nl, 0, none⟩)] w _
    go_enter Try.func15, Try.ntmps15
    go_wp2_with fail
    refine cG.mono ?_
    rintro e w3 ⟨rfl, hg3⟩
    have HG3 := Lib.hid hg3
    clear hg3 cG
    go_wp2
    go_ret
    exact ⟨rfl, HG.out.trans HG3.out⟩
  keep := fun w w' h hs hk => h.kept hk
  lt := fun w h k hk => h.lt k hk
set_option maxRecDepth 100000 in
theorem live_LazyAll_1 (K Nl : Nat) (v u : Value) (L : Cn) : LiveF 20 #[.pointer (some ⟨Nl, 0, none⟩)] (getC L) (fun W => LvIn W K Nl v u L) (mineV K Nl v u) where
  enter := enters_of Try.func20 (by kernel_rfl) rfl
  calls := fun a b w hf h => by
    obtain ⟨N, hN⟩ : ∃ N, w.heap.size = N := ⟨_, rfl⟩
    obtain ⟨wa, hwa⟩ : ∃ wa, w.alloc (.cells #[.int .i64 a, .int .i64 b] 41) = wa := ⟨_, rfl⟩
    have hg : Grown w wa := by rw [← hwa]; exact (Grown.refl w).alloc _
    have hba : wa.heap[N]? = some (.cells #[.int .i64 a, .int .i64 b] 41 (0, 0)) := by rw [← hwa, ← hN]; exact heap_alloc_new w _
    have n0 : wa.cell? ⟨N, 0, none⟩ = some (.int .i64 a) := by rw [cell_of_row wa N _ _ 41 (0, 0) hba]; rfl
    have n1 : wa.cell? ⟨N, 1, none⟩ = some (.int .i64 b) := by rw [cell_of_row wa N _ _ 41 (0, 0) hba]; rfl
    have hL := h.grown hg
    have l0 := hL.cell
    have cG := hL.get a b
    have HG := Lib.hid hg
    clear h hg hba hL hf
    show Calls Try.prog 20 #[.agg #[.int .i64 a, .int .i64 b], .pointer (some ⟨Nl, 0, none⟩)] w _
    go_enter Try.func20, Try.ntmps20
    go_wp2_with fail
    refine cG.mono ?_
    rintro e w3 ⟨rfl, hg3⟩
    have HG3 := Lib.hid hg3
    clear hg3 cG
    go_wp2
    go_ret
    exact ⟨rfl, HG.out.trans HG3.out⟩
  keep := fun w w' h hs hk => h.kept hk
  lt := fun w h k hk => h.lt k hk
set_option maxRecDepth 100000 in
theorem live_LazyAll_2 (K Nl : Nat) (v u : Value) (L : Cn) : LiveF 22 #[.pointer (some ⟨Nl, 0, none⟩)] (getC L) (fun W => LvIn W K Nl v u L) (mineV K Nl v u) where
  enter := enters_of Try.func22 (by kernel_rfl) rfl
  calls := fun a b w hf h => by
    obtain ⟨N, hN⟩ : ∃ N, w.heap.size = N := ⟨_, rfl⟩
    obtain ⟨wa, hwa⟩ : ∃ wa, w.alloc (.cells #[.int .i64 a, .int .i64 b] 41) = wa := ⟨_, rfl⟩
    have hg : Grown w wa := by rw [← hwa]; exact (Grown.refl w).alloc _
    have hba : wa.heap[N]? = some (.cells #[.int .i64 a, .int .i64 b] 41 (0, 0)) := by rw [← hwa, ← hN]; exact heap_alloc_new w _
    have n0 : wa.cell? ⟨N, 0, none⟩ = some (.int .i64 a) := by rw [cell_of_row wa N _ _ 41 (0, 0) hba]; rfl
    have n1 : wa.cell? ⟨N, 1, none⟩ = some (.int .i64 b) := by rw [cell_of_row wa N _ _ 41 (0, 0) hba]; rfl
    have hL := h.grown hg
    have l0 := hL.cell
    have cG := hL.get a b
    have HG := Lib.hid hg
    clear h hg hba hL hf
    show Calls Try.prog 22 #[.agg #[.int .i64 a, .int .i64 b], .pointer (some ⟨Nl, 0, none⟩)] w _
    go_enter Try.func22, Try.ntmps22
    go_wp2_with fail
    refine cG.mono ?_
    rintro e w3 ⟨rfl, hg3⟩
    have HG3 := Lib.hid hg3
    clear hg3 cG
    go_wp2
    go_ret
    exact ⟨rfl, HG.out.trans HG3.out⟩
  keep := fun w w' h hs hk => h.kept hk
  lt := fun w h k hk => h.lt k hk
/-! With all that stands beside. -/
set_option maxRecDepth 100000 in
theorem la_get (h : LaS w Bx X K T tv tb J Kl Nl q L wr) (a b : Int) : Calls Try.prog 13 #[.pointer (some ⟨Kl, 0, none⟩), .agg #[.int .i64 a, .int .i64 b]] wr fun e w' => e = .returned (.int .i64 (getC L (a, b))) ∧ Grown wr w' := by
  obtain ⟨_, _, _, h⟩ := h
  obtain ⟨_, _, h1, _, _⟩ := h.lv
  exact h1.get a b
set_option maxRecDepth 100000 in
theorem la_add (h : LaS w Bx X K T tv tb J Kl Nl q L wr) (a b c t : Int) (hp : FitsPr (a, b)) (hc : FitsZ c) (ht : FitsZ t) (hl : (addC L (a, b) c t).1.length ≤ 1000) : Calls Try.prog 12 #[.pointer (some ⟨Kl, 0, none⟩), .agg #[.int .i64 a, .int .i64 b], .int .i64 c, .int .i64 t] wr fun e w' => e = .returned (.int .i64 (addC L (a, b) c t).2) ∧ LaS w Bx X K T tv tb J Kl Nl q (addC L (a, b) c t).1 w' := by
  obtain ⟨Sq, Sl, Sx, h⟩ := h
  obtain ⟨v, u, h1, h2, h3⟩ := h.lv
  refine (h1.add a b c t hp hc ht hl).mono fun e w' he => ?_
  obtain ⟨e1, v', u', r1, r2⟩ := he
  exact ⟨e1, Sq, mineV Kl Nl v' u', Sx, h.turnL ⟨v', u', r1, fun _ h => h, r1.lt⟩ ⟨(Kept.refl Sl wr).trans r2.kept fun k _ hk => h2 k hk, fun k hk hlt => h2 k (r2.out k hk hlt)⟩⟩
set_option maxRecDepth 100000 in
theorem la_put (h : LaS w Bx X K T tv tb J Kl Nl q L wr) (p : Int × Int) (n : Int) (hp : FitsPr p) (h1 : thereOf J p.1 = true) (h2 : thereOf J p.2 = true) (hn2 : FitsN n) (hpu : q.pu ≤ 80000) :
    Calls Try.prog 10 #[.pointer (some ⟨K, 0, none⟩), .agg #[.int .i64 p.1, .int .i64 p.2], .int .i64 n] wr fun e w' => e = .returned (.tuple #[]) ∧ LaS w Bx X K T tv tb J Kl Nl (putQ q p n) L w' := by
  obtain ⟨Sq, Sl, Sx, h⟩ := h
  refine (zput_any p n h.lz hp h1 h2 hn2 hpu).mono fun e w' he => ?_
  obtain ⟨e1, S', r1, r2⟩ := he
  exact ⟨e1, S', Sl, Sx, h.turnQ r1 r2⟩
def LaPop (w : World) (Bx : List (Nat × Obj)) (X : Ob) (K T : Nat) (tv : Value) (tb : Option Nat) (J : List Joint) (Kl Nl : Nat) (q : Qm) (L : Cn) (e : Ending) (w' : World) : Prop :=
  ∃ o l n, Pops J (getC L) q.ents o l n ∧ e = .returned (popV o) ∧ LaS w Bx X K T tv tb J Kl Nl (popQ q o l n) L w'
set_option maxRecDepth 100000 in
theorem la_pop {g : Nat} (hG : ∀ v u, LiveF g #[.pointer (some ⟨Nl, 0, none⟩)] (getC L) (fun W => LvIn W Kl Nl v u L) (mineV Kl Nl v u)) (h : LaS w Bx X K T tv tb J Kl Nl q L wr) (hpu : q.pu ≤ 80000) :
    Calls Try.prog 14 #[.pointer (some ⟨K, 0, none⟩), .func (.func g) #[] #[.pointer (some ⟨Nl, 0, none⟩)]] wr (LaPop w Bx X K T tv tb J Kl Nl q L) := by
  obtain ⟨Sq, Sl, Sx, h⟩ := h
  obtain ⟨v, u, h1, h2, h3⟩ := h.lv
  refine (zpop_any (hG v u) h.lz h1 (fun k hk hm => h.ql k hk (h2 k hm)) hpu).mono fun e w' he => ?_
  obtain ⟨o, l, n, r1, r2, S', r3, r4⟩ := he
  exact ⟨o, l, n, r1, r2, S', Sl, Sx, h.turnQ r3 r4⟩
set_option maxRecDepth 100000 in
theorem la_len (h : LaS w Bx X K T tv tb J Kl Nl q L wr) : Calls Try.prog 17 #[.pointer (some ⟨K, 0, none⟩)] wr fun e w' => e = .returned (.int .i64 (q.ents.length : Int)) ∧ w' = wr := by
  obtain ⟨_, _, _, h⟩ := h
  exact zlen_any h.lz
set_option maxRecDepth 100000 in
theorem la_known (h : LaS w Bx X K T tv tb J Kl Nl q L wr) : Calls Try.prog 18 #[.pointer (some ⟨K, 0, none⟩)] wr fun e w' => e = .returned (.int .i64 (q.known.length : Int)) ∧ w' = wr := by
  obtain ⟨_, _, _, h⟩ := h
  exact zknown_any h.lz
set_option maxRecDepth 100000 in
theorem la_better (h : LaS w Bx X K T tv tb J Kl Nl q L wr) (x y : Item) (hx : FitsI x) (hy : FitsI y) : Calls Try.prog 21 #[.pointer (some ⟨T, 0, none⟩), itemV x, itemV y] wr fun e w' => e = .returned (.bool (betterOf J x y)) ∧ Grown wr w' := by
  obtain ⟨_, _, _, h⟩ := h
  obtain ⟨_, _, _, _, _, _, _, h1, _, _⟩ := h.lz
  exact better_any T tv tb J x y wr h1.env.tab h1.env.few hx hy
set_option maxRecDepth 100000 in
/-- How many pairs are live. -/
theorem LaS.count (h : LaS w Bx X K T tv tb J Kl Nl q L wr) : ∃ v cap, wr.cell? ⟨Kl, 0, none⟩ = some (.slice v L.length cap) := by
  obtain ⟨_, _, _, h⟩ := h
  obtain ⟨v, u, h1, _, _⟩ := h.lv
  obtain ⟨a, cap, e, _⟩ := h1.cnt.keys.form
  rw [keysC_len] at e
  exact ⟨a, cap, by rw [cell_of_row wr Kl 0 _ 34 (0, 0) h1.cnt.box, e]; rfl⟩
end Go.Proofs.Ytbnekkcjkdghcaa
