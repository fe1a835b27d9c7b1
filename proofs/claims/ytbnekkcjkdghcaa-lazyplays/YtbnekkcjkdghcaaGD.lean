/- Texts in one: LzLaw, LzAwake. -/
import Derived.Test.YtbnekkcjkdghcaaGE
import Derived.Test.YtbnekkcjkdghcaaRcoAdd
/- A queue as the laws see it: with the set of its blocks. -/
namespace Go.Proofs.Ytbnekkcjkdghcaa
open Go.RowKit Go.Maps Go.Shelf
open Go.Sort (grow grow_empty grow_grow alloc_eq_grow heap_grow_old)

/-- Block K is a queue; all its blocks are in S. -/
def Lz (w : World) (S : Nat → Prop) (K T : Nat) (tv : Value) (tb : Option Nat) (J : List Joint) (q : Qm) : Prop :=
  ∃ H c m v A hu hk, LzIn w K T H c m v A hu hk tv tb J q ∧ (∀ k, mineL K H m v k ∨ lzBet T c tv tb k → S k) ∧ ∀ k, S k → k < w.heap.size
/-- From w to w' only blocks of S have turned; now the object's are in S', which has no other old ones. -/
structure Stp (S S' : Nat → Prop) (w w' : World) : Prop where
  kept : Kept S w w'
  out : ∀ k, S' k → k < w.heap.size → S k
variable {w w' : World} {S S' R : Nat → Prop} {K T : Nat} {tv : Value} {tb : Option Nat} {J : List Joint} {q q' : Qm}
set_option maxRecDepth 100000 in
theorem Lz.kept (h : Lz w S K T tv tb J q) (hk : ∀ k, k < w.heap.size → S k → w'.heap[k]? = w.heap[k]?) (hs : w.heap.size ≤ w'.heap.size) : Lz w' S K T tv tb J q := by
  obtain ⟨H, c, m, v, A, hu, hk0, h1, h2, h3⟩ := h
  exact ⟨H, c, m, v, A, hu, hk0, h1.kept fun k a b => hk k a (h2 k b), h2, fun k a => Nat.lt_of_lt_of_le (h3 k a) hs⟩
set_option maxRecDepth 100000 in
theorem Lz.lt (h : Lz w S K T tv tb J q) : ∀ k, S k → k < w.heap.size := by obtain ⟨_, _, _, _, _, _, _, _, _, h3⟩ := h; exact h3
set_option maxRecDepth 100000 in
theorem Lz.grown (h : Lz w S K T tv tb J q) (g : Grown w w') : Lz w' S K T tv tb J q := h.kept (fun k a _ => g.below.block k a) g.below.size
set_option maxRecDepth 100000 in
theorem Lz.below (h : Lz w S K T tv tb J q) (g : Below w.heap.size w w') : Lz w' S K T tv tb J q := h.kept (fun k a _ => g.block k a) g.size
set_option maxRecDepth 100000 in
theorem Lz.sane (h : Lz w S K T tv tb J q) : SaneQ J q := by obtain ⟨_, _, _, _, _, _, _, h1, _, _⟩ := h; exact h1.sane
set_option maxRecDepth 100000 in
/-- Another object's blocks stay apart. -/
theorem Stp.apart (h : Stp S S' w w') (ha : ∀ k, S k → ¬ R k) (hR : ∀ k, R k → k < w.heap.size) : ∀ k, S' k → ¬ R k := fun k h1 h2 => ha k (h.out k h1 (hR k h2)) h2
set_option maxRecDepth 100000 in
theorem Stp.block (h : Stp S S' w w') (ha : ∀ k, S k → ¬ R k) : ∀ k, k < w.heap.size → R k → w'.heap[k]? = w.heap[k]? := fun k h1 h2 => h.kept.block k h1 fun h3 => ha k h3 h2
set_option maxRecDepth 100000 in
theorem Stp.after {w1 : World} (h : Stp S S' w1 w') (g : Below w.heap.size w w1) : Stp S S' w w' :=
  ⟨(Kept.of_below (S := S) g (Nat.le_refl _)).trans h.kept fun _ _ h => h, fun k h1 h2 => h.out k h1 (Nat.lt_of_lt_of_le h2 g.size)⟩
def LzStep (w : World) (S : Nat → Prop) (K T : Nat) (tv : Value) (tb : Option Nat) (J : List Joint) (q' : Qm) (w' : World) : Prop := ∃ S', Lz w' S' K T tv tb J q' ∧ Stp S S' w w'
set_option maxRecDepth 100000 in
theorem lz_step {H c m : Nat} {v : Value} (h2 : ∀ k, mineL K H m v k ∨ lzBet T c tv tb k → S k) (hr : LRet w K T H c m v tv tb J q' w') : LzStep w S K T tv tb J q' w' := by
  obtain ⟨H', c', v', A', hu', hk', b1, b2, b3⟩ := hr
  refine ⟨fun k => mineL K H' m v' k ∨ lzBet T c' tv tb k, ⟨H', c', m, v', A', hu', hk', b1, fun _ h => h, b1.lt⟩, ((Kept.refl S w).trans b2 fun k _ h => h2 k (.inl h)), fun k h1 hlt => ?_⟩
  rcases h1 with h1 | h1 | h1
  · rcases b3 k (.inl h1) hlt with h3 | h3
    · exact h2 k (.inl h3)
    · exact h2 k (.inr (.inr h3))
  · exact h2 k (.inr (.inl h1))
  · rcases b3 k (.inr h1) hlt with h3 | h3
    · exact h2 k (.inl h3)
    · exact h2 k (.inr (.inr h3))
set_option maxRecDepth 100000 in
theorem znew_any (T : Nat) (tv : Value) (tb : Option Nat) (J : List Joint) (w : World) (h : Stab w T tv tb J) (hJ : J.length ≤ 1000000) :
    Calls Try.prog 7 #[.pointer (some ⟨T, 0, none⟩)] w fun e w' => ∃ K S, e = .returned (.pointer (some ⟨K, 0, none⟩)) ∧ Lz w' S K T tv tb J newQ ∧ Below w.heap.size w w' ∧ ∀ k, S k → w.heap.size ≤ k ∨ mineT T tv tb k :=
  (lnew_any T tv tb J w h hJ).mono fun e w' hr => by
    obtain ⟨K, H, c, m, e1, h1, h2, h3⟩ := hr
    exact ⟨K, fun k => mineL K H m (.slice none 0 0) k ∨ lzBet T c tv tb k, e1, ⟨H, c, m, _, _, _, _, h1, fun _ h => h, h1.lt⟩, h2, fun k hk => by
      rcases hk with hk | hk | hk
      · exact .inl (h3 k (.inl hk))
      · exact .inr hk
      · exact .inl (h3 k (.inr hk))⟩
set_option maxRecDepth 100000 in
theorem zput_any (p : Int × Int) (n : Int) (h : Lz w S K T tv tb J q) (hp : FitsPr p) (h1 : thereOf J p.1 = true) (h2 : thereOf J p.2 = true) (hn2 : FitsN n) (hpu : q.pu ≤ 80000) :
    Calls Try.prog 10 #[.pointer (some ⟨K, 0, none⟩), .agg #[.int .i64 p.1, .int .i64 p.2], .int .i64 n] w fun e w' => e = .returned (.tuple #[]) ∧ LzStep w S K T tv tb J (putQ q p n) w' := by
  obtain ⟨H, c, m, v, A, hu, hk, a1, a2, a3⟩ := h
  exact (lput_any p n a1 hp h1 h2 hn2 hpu).mono fun e w' hr => ⟨hr.1, lz_step a2 hr.2⟩
def ZPopRet (w : World) (S : Nat → Prop) (K T : Nat) (tv : Value) (tb : Option Nat) (J : List Joint) (f : Int × Int → Int) (q : Qm) (e : Ending) (w' : World) : Prop :=
  ∃ o l n, Pops J f q.ents o l n ∧ e = .returned (popV o) ∧ LzStep w S K T tv tb J (popQ q o l n) w'
set_option maxRecDepth 100000 in
theorem zpop_any {g : Nat} {lb : Array Value} {f : Int × Int → Int} {E : World → Prop} {Bk : Nat → Prop} (L : LiveF g lb f E Bk) (h : Lz w S K T tv tb J q) (hE : E w) (hap : ∀ k, S k → ¬ Bk k) (hpu : q.pu ≤ 80000) :
    Calls Try.prog 14 #[.pointer (some ⟨K, 0, none⟩), .func (.func g) #[] lb] w (ZPopRet w S K T tv tb J f q) := by
  obtain ⟨H, c, m, v, A, hu, hk, a1, a2, a3⟩ := h
  exact (lpop_any L a1 hE (fun k hk1 => hap k (a2 k (by rcases hk1 with h | h; exact .inl h; exact .inr (.inr h)))) hpu).mono fun e w' hr => by
    obtain ⟨o, l, n, r1, r2, r3⟩ := hr
    exact ⟨o, l, n, r1, r2, lz_step a2 r3⟩
set_option maxRecDepth 100000 in
theorem zlen_any (h : Lz w S K T tv tb J q) : Calls Try.prog 17 #[.pointer (some ⟨K, 0, none⟩)] w fun e w' => e = .returned (.int .i64 (q.ents.length : Int)) ∧ w' = w := by
  obtain ⟨H, c, m, v, A, hu, hk, a1, a2, a3⟩ := h
  exact llen_any a1
set_option maxRecDepth 100000 in
theorem zknown_any (h : Lz w S K T tv tb J q) : Calls Try.prog 18 #[.pointer (some ⟨K, 0, none⟩)] w fun e w' => e = .returned (.int .i64 (q.known.length : Int)) ∧ w' = w := by
  obtain ⟨H, c, m, v, A, hu, hk, a1, a2, a3⟩ := h
  exact lknown_any a1
set_option maxRecDepth 100000 in
theorem zstats_any (h : Lz w S K T tv tb J q) : Calls Try.prog 19 #[.pointer (some ⟨K, 0, none⟩)] w fun e w' => e = .returned (statsV q.pu q.po q.pk q.re) ∧ Grown w w' := by
  obtain ⟨H, c, m, v, A, hu, hk, a1, a2, a3⟩ := h
  exact lstats_any a1
/-! What is live: always the same number; what a count of the document's tells. -/
set_option maxRecDepth 100000 in
theorem live_two : LiveF 24 #[] (fun _ => 2) (fun _ => True) (fun _ => False) where
  enter := enters_of Try.func24 (by kernel_rfl) rfl
  calls := fun a b w _ _ => by
    have HG : Hid (Grown w (w.alloc (.cells #[.int .i64 a, .int .i64 b] 41))) := Lib.hid ((Grown.refl w).alloc _)
    show Calls Try.prog 24 #[.agg #[.int .i64 a, .int .i64 b]] w _
    go_enter Try.func24, Try.ntmps24
    go_wp2
    go_ret
    exact ⟨rfl, HG.out⟩
  keep := fun _ _ _ _ _ => trivial
  lt := fun _ _ _ h => h.elim
set_option maxRecDepth 100000 in
/-- The awake's example, in plain words. -/
theorem awake_pops : Pops [] (fun _ => 2) [(97, 98, 3), (97, 98, 2)] (.some (97, 98, 2)) [] 2 :=
  .miss (List.Perm.refl _) (by
    intro y hy
    simp only [List.mem_cons, List.not_mem_nil, or_false] at hy
    rcases hy with rfl | rfl
    · exact better_irrefl _
    · simp [betterOf, icmp, cmpI]) (by decide) (.hit (List.Perm.refl _) (by
    intro y hy
    rw [List.mem_singleton] at hy
    subst hy
    exact better_irrefl _) rfl)
set_option maxRecDepth 100000 in
theorem awake_put : putQ (putQ newQ (97, 98) 3) (97, 98) 2 = ⟨[(97, 98, 3), (97, 98, 2)], [((97, 98), 2)], 2, 0, 2, 0⟩ := by rfl
set_option maxRecDepth 100000 in
theorem there_byte {J : List Joint} {a : Int} (h0 : 0 ≤ a) (h1 : a ≤ 255) : thereOf J a = true := there_iff.2 ⟨h0, by rw [texts_len]; omega⟩
end Go.Proofs.Ytbnekkcjkdghcaa
/- The document's example comes out as it says. -/
namespace Go.Proofs.Ytbnekkcjkdghcaa
open Go.RowKit Go.Maps Go.Shelf
open Go.Sort (grow grow_empty grow_grow alloc_eq_grow heap_grow_old)

set_option maxRecDepth 100000 in
theorem item_eql_yes (p q n : Int) (w : World) : (binOp .eql 48 (.agg #[.int .i64 p, .int .i64 q, .int .i64 n]) (.agg #[.int .i64 p, .int .i64 q, .int .i64 n])).run Try.prog w = .ok (.bool true) w := by
  have u48 := Try.underlying48
  have u41 := Try.underlying41
  have u3 := Try.underlying3
  simp [go_sem, u48, u41, u3]
set_option maxRecDepth 100000 in
theorem stats_pops (a b d f : Int) (w : World) : (Instr.field 36 (.agg #[.int .i64 0, .int .i64 0, .int .i64 a, .int .i64 b, .int .i64 d, .int .i64 f]) 3).run Try.prog w = .ok (.int .i64 b) w := by kernel_rfl
set_option maxRecDepth 100000 in
set_option maxHeartbeats 4000000 in
theorem awake_any (w : World) : Calls Try.prog 6 #[] w fun e w' => e = .returned (.bool true) ∧ Below w.heap.size w w' := by
  obtain ⟨w1, hw1⟩ : ∃ w1, w.alloc (.cells #[.slice none 0 0, .map none] 70) = w1 := ⟨_, rfl⟩
  have cS := snew_any w
  rw [hw1] at cS
  have hst : Stab w1 w.heap.size (.slice none 0 0) none [] := by rw [← hw1]; exact new_stab w
  have cN := znew_any _ _ _ _ w1 hst (by simp)
  have HB1 : Hid (Below w.heap.size w w1) := Lib.hid (by rw [← hw1]; exact (Below.refl _ w).alloc (Nat.le_refl _) _)
  have heq := item_eql_yes 97 98 2
  have hfd := stats_pops
  clear hst hw1
  go_enter Try.func6, Try.ntmps6
  go_wp2_with fail
  refine cS.mono ?_
  rintro e w2 ⟨rfl, rfl⟩
  go_wp2_with fail
  refine cN.mono ?_
  rintro e w3 ⟨K, S, rfl, hz, hb3, hS⟩
  obtain ⟨N, hN⟩ : ∃ N, w3.heap.size = N := ⟨_, rfl⟩
  obtain ⟨w4, hw4⟩ : ∃ w4, w3.alloc (.cells #[.int .i64 97, .int .i64 98] 41) = w4 := ⟨_, rfl⟩
  have hb34 : Below w3.heap.size w3 w4 := by rw [← hw4]; exact (Below.refl _ w3).alloc (Nat.le_refl _) _
  have hbx4 : w4.heap[N]? = some (.cells #[.int .i64 97, .int .i64 98] 41 (0, 0)) := by rw [← hw4, ← hN]; exact heap_alloc_new w3 _
  have b0 : w4.cell? ⟨N, 0, none⟩ = some (.int .i64 97) := by rw [cell_of_row w4 N _ _ 41 (0, 0) hbx4]; rfl
  have b1 : w4.cell? ⟨N, 1, none⟩ = some (.int .i64 98) := by rw [cell_of_row w4 N _ _ 41 (0, 0) hbx4]; rfl
  have cP := zput_any (97, 98) 3 (hz.below hb34) ⟨by simp, by simp⟩ (there_byte (by simp) (by simp)) (there_byte (by simp) (by simp)) ⟨by simp, by simp⟩ (by simp [newQ])
  have HX : Hid (∀ W, Kept S w4 W → W.heap[N]? = some (.cells #[.int .i64 97, .int .i64 98] 41 (0, 0))) := Lib.hid fun W hk => (hk.block N (by rw [← hw4, World.size_alloc, hN]; omega) fun h => by have := hz.lt N h; omega).trans hbx4
  have HSB : Hid (∀ k, S k → w.heap.size ≤ k) := Lib.hid fun k hk => by
    rcases hS k hk with h | h | h | h
    · exact Nat.le_trans HB1.out.size h
    · omega
    · simp [Value.ownBlock] at h
    · cases h
  have HB4 : Hid (Below w.heap.size w w4) := Lib.hid (HB1.out.trans ((hb3.trans (hb34.mono hb3.size)).mono HB1.out.size))
  clear cS cN hz hb3 hS hb34 hbx4
  go_wp2_with fail
  refine cP.mono ?_
  rintro e w5 ⟨rfl, S5, hz5, hs5⟩
  have hbx5 := HX.out w5 hs5.kept
  have d0 : w5.cell? ⟨N, 0, none⟩ = some (.int .i64 97) := by rw [cell_of_row w5 N _ _ 41 (0, 0) hbx5]; rfl
  have d1 : w5.cell? ⟨N, 1, none⟩ = some (.int .i64 98) := by rw [cell_of_row w5 N _ _ 41 (0, 0) hbx5]; rfl
  have cP2 := zput_any (97, 98) 2 hz5 ⟨by simp, by simp⟩ (there_byte (by simp) (by simp)) (there_byte (by simp) (by simp)) ⟨by simp, by simp⟩ (by show (1 : Int) ≤ 80000; omega)
  rw [awake_put] at cP2
  have HS5 := Lib.hid hs5
  clear cP hz5 hs5 hbx5
  go_wp2_with fail
  refine cP2.mono ?_
  rintro e w6 ⟨rfl, S6, hz6, hs6⟩
  have hk46 : Kept S w4 w6 := HS5.out.kept.trans hs6.kept fun k h1 h2 => HS5.out.out k h2 h1
  have ho6 : ∀ k, S6 k → k < w4.heap.size → S k := fun k h1 h2 => HS5.out.out k (hs6.out k h1 (Nat.lt_of_lt_of_le h2 HS5.out.kept.size)) h2
  have cQ := zpop_any live_two hz6 trivial (fun _ _ h => h) (by show (2 : Int) ≤ 80000; omega)
  have HK46 := Lib.hid hk46; have HO6 := Lib.hid ho6
  clear cP2 hz6 hs6 hk46 ho6
  go_wp2_with fail
  refine cQ.mono ?_
  rintro e w7 ⟨o, l, n, hpo, rfl, S7, hz7, hs7⟩
  obtain ⟨rfl, rfl, hl⟩ := hpo.one good_nil awake_pops (List.Perm.refl _) (fun x hx => by
    simp only [List.mem_cons, List.not_mem_nil, or_false] at hx
    rcases hx with rfl | rfl <;> exact ⟨⟨⟨by simp, by simp⟩, ⟨by simp, by simp⟩, ⟨by simp, by simp⟩⟩, there_byte (by simp) (by simp), there_byte (by simp) (by simp), by simp⟩)
  obtain rfl := hl.eq_nil
  have hk47 : Kept S w4 w7 := HK46.out.trans hs7.kept fun k h1 h2 => HO6.out k h2 h1
  obtain ⟨M, hM⟩ : ∃ M, w7.heap.size = M := ⟨_, rfl⟩
  obtain ⟨w8, hw8⟩ : ∃ w8, w7.alloc (.cells #[.int .i64 97, .int .i64 98, .int .i64 2] 48) = w8 := ⟨_, rfl⟩
  have hg78 : Grown w7 w8 := by rw [← hw8]; exact (Grown.refl w7).alloc _
  have hbN := HX.out w7 hk47
  have hbN8 := (hg78.below.block N (Array.getElem?_eq_some_iff.1 hbN).1).trans hbN
  have hbM8 : w8.heap[M]? = some (.cells #[.int .i64 97, .int .i64 98, .int .i64 2] 48 (0, 0)) := by rw [← hw8, ← hM]; exact heap_alloc_new w7 _
  have f0 : w8.cell? ⟨N, 0, none⟩ = some (.int .i64 97) := by rw [cell_of_row w8 N _ _ 41 (0, 0) hbN8]; rfl
  have f1 : w8.cell? ⟨N, 1, none⟩ = some (.int .i64 98) := by rw [cell_of_row w8 N _ _ 41 (0, 0) hbN8]; rfl
  have g0 : w8.cell? ⟨M, 0, none⟩ = some (.int .i64 97) := by rw [cell_of_row w8 M _ _ 48 (0, 0) hbM8]; rfl
  have g1 : w8.cell? ⟨M, 1, none⟩ = some (.int .i64 98) := by rw [cell_of_row w8 M _ _ 48 (0, 0) hbM8]; rfl
  have g2 : w8.cell? ⟨M, 2, none⟩ = some (.int .i64 2) := by rw [cell_of_row w8 M _ _ 48 (0, 0) hbM8]; rfl
  have cA := zstats_any (hz7.grown hg78)
  have HZ8 := Lib.hid (hz7.grown hg78)
  have HB8 : Hid (Below w.heap.size w w8) := Lib.hid (HB4.out.trans (((hk47.below (B := w.heap.size) HB4.out.size HSB.out)).trans (hg78.below.mono (by have := hk47.size; have := HB4.out.size; omega))))
  clear cQ hz7 hs7 hk47 hbN hbN8 hbM8 hg78 hpo hl
  unfold popV itemV
  simp only
  simp only [popQ] at cA
  unfold statsV at cA
  go_wp2_with fail
  refine cA.mono ?_
  rintro e w9 ⟨rfl, hg9⟩
  have cE := zlen_any (HZ8.out.grown hg9)
  have HG9 := Lib.hid hg9
  clear hg9 cA
  go_wp2_with fail
  refine cE.mono ?_
  rintro e w10 ⟨rfl, rfl⟩
  go_wp2
  go_ret
  exact ⟨rfl, HB8.out.trans (HG9.out.below.mono HB8.out.size)⟩
end Go.Proofs.Ytbnekkcjkdghcaa
