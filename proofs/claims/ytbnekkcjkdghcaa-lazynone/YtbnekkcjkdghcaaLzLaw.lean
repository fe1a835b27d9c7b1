/- A queue as the laws see it: with the set of its blocks. -/
import Derived.Test.YtbnekkcjkdghcaaLzPop
import Derived.Test.YtbnekkcjkdghcaaRcoAdd
namespace Go.Proofs.Ytbnekkcjkdghcaa
open Go.RowKit Go.Maps Go.Shelf
open Go.Sort (grow grow_empty grow_grow alloc_eq_grow heap_grow_old)

/-- Block K is a queue; all its blocks are in S. -/
def Lz (w : World) (S : Nat → Prop) (K T : Nat) (tv : Value) (tb : Option Nat) (J : List Joint) (q : Qm) : Prop :=
  ∃ H c m v A hu hk, LzIn w K T H c m v A hu hk tv tb J q ∧ (∀ k, mineL K H m v k ∨ lzBet T c tv tb k → S k) ∧ ∀ k, S k → k < w.heap.size
/-- From w to w' only blocks of S have turned; now the object's are in S', which has no other old ones. -/
structure Stp (S S' : Nat → Prop) (w w' : World) : Prop where
  kept : Kept S w w'
  out : ∀ k, S' k → k < w.heap.size → S k
variable {w w' : World} {S S' R : Nat → Prop} {K T : Nat} {tv : Value} {tb : Option Nat} {J : List Joint} {q q' : Qm}
set_option maxRecDepth 100000 in
theorem Lz.kept (h : Lz w S K T tv tb J q) (hk : ∀ k, k < w.heap.size → S k → w'.heap[k]? = w.heap[k]?) (hs : w.heap.size ≤ w'.heap.size) : Lz w' S K T tv tb J q := by
  obtain ⟨H, c, m, v, A, hu, hk0, h1, h2, h3⟩ := h
  exact ⟨H, c, m, v, A, hu, hk0, h1.kept fun k a b => hk k a (h2 k b), h2, fun k a => Nat.lt_of_lt_of_le (h3 k a) hs⟩
set_option maxRecDepth 100000 in
theorem Lz.lt (h : Lz w S K T tv tb J q) : ∀ k, S k → k < w.heap.size := by obtain ⟨_, _, _, _, _, _, _, _, _, h3⟩ := h; exact h3
set_option maxRecDepth 100000 in
theorem Lz.grown (h : Lz w S K T tv tb J q) (g : Grown w w') : Lz w' S K T tv tb J q := h.kept (fun k a _ => g.below.block k a) g.below.size
set_option maxRecDepth 100000 in
theorem Lz.below (h : Lz w S K T tv tb J q) (g : Below w.heap.size w w') : Lz w' S K T tv tb J q := h.kept (fun k a _ => g.block k a) g.size
set_option maxRecDepth 100000 in
theorem Lz.sane (h : Lz w S K T tv tb J q) : SaneQ J q := by obtain ⟨_, _, _, _, _, _, _, h1, _, _⟩ := h; exact h1.sane
set_option maxRecDepth 100000 in
/-- Another object's blocks stay apart. -/
theorem Stp.apart (h : Stp S S' w w') (ha : ∀ k, S k → ¬ R k) (hR : ∀ k, R k → k < w.heap.size) : ∀ k, S' k → ¬ R k := fun k h1 h2 => ha k (h.out k h1 (hR k h2)) h2
set_option maxRecDepth 100000 in
theorem Stp.block (h : Stp S S' w w') (ha : ∀ k, S k → ¬ R k) : ∀ k, k < w.heap.size → R k → w'.heap[k]? = w.heap[k]? := fun k h1 h2 => h.kept.block k h1 fun h3 => ha k h3 h2
set_option maxRecDepth 100000 in
theorem Stp.after {w1 : World} (h : Stp S S' w1 w') (g : Below w.heap.size w w1) : Stp S S' w w' :=
  ⟨(Kept.of_below (S := S) g (Nat.le_refl _)).trans h.kept fun _ _ h => h, fun k h1 h2 => h.out k h1 (Nat.lt_of_lt_of_le h2 g.size)⟩
def LzStep (w : World) (S : Nat → Prop) (K T : Nat) (tv : Value) (tb : Option Nat) (J : List Joint) (q' : Qm) (w' : World) : Prop := ∃ S', Lz w' S' K T tv tb J q' ∧ Stp S S' w w'
set_option maxRecDepth 100000 in
theorem lz_step {H c m : Nat} {v : Value} (h2 : ∀ k, mineL K H m v k ∨ lzBet T c tv tb k → S k) (hr : LRet w K T H c m v tv tb J q' w') : LzStep w S K T tv tb J q' w' := by
  obtain ⟨H', c', v', A', hu', hk', b1, b2, b3⟩ := hr
  refine ⟨fun k => mineL K H' m v' k ∨ lzBet T c' tv tb k, ⟨H', c', m, v', A', hu', hk', b1, fun _ h => h, b1.lt⟩, ((Kept.refl S w).trans b2 fun k _ h => h2 k (.inl h)), fun k h1 hlt => ?_⟩
  rcases h1 with h1 | h1 | h1
  · rcases b3 k (.inl h1) hlt with h3 | h3
    · exact h2 k (.inl h3)
    · exact h2 k (.inr (.inr h3))
  · exact h2 k (.inr (.inl h1))
  · rcases b3 k (.inr h1) hlt with h3 | h3
    · exact h2 k (.inl h3)
    · exact h2 k (.inr (.inr h3))
set_option maxRecDepth 100000 in
theorem znew_any (T : Nat) (tv : Value) (tb : Option Nat) (J : List Joint) (w : World) (h : Stab w T tv tb J) (hJ : J.length ≤ 1000000) :
    Calls Try.prog 7 #[.pointer (some ⟨T, 0, none⟩)] w fun e w' => ∃ K S, e = .returned (.pointer (some ⟨K, 0, none⟩)) ∧ Lz w' S K T tv tb J newQ ∧ Below w.heap.size w w' ∧ ∀ k, S k → w.heap.size ≤ k ∨ mineT T tv tb k :=
  (lnew_any T tv tb J w h hJ).mono fun e w' hr => by
    obtain ⟨K, H, c, m, e1, h1, h2, h3⟩ := hr
    exact ⟨K, fun k => mineL K H m (.slice none 0 0) k ∨ lzBet T c tv tb k, e1, ⟨H, c, m, _, _, _, _, h1, fun _ h => h, h1.lt⟩, h2, fun k hk => by
      rcases hk with hk | hk | hk
      · exact .inl (h3 k (.inl hk))
      · exact .inr hk
      · exact .inl (h3 k (.inr hk))⟩
set_option maxRecDepth 100000 in
theorem zput_any (p : Int × Int) (n : Int) (h : Lz w S K T tv tb J q) (hp : FitsPr p) (h1 : thereOf J p.1 = true) (h2 : thereOf J p.2 = true) (hn2 : FitsN n) (hpu : q.pu ≤ 80000) :
    Calls Try.prog 10 #[.pointer (some ⟨K, 0, none⟩), .agg #[.int .i64 p.1, .int .i64 p.2], .int .i64 n] w fun e w' => e = .returned (.tuple #[]) ∧ LzStep w S K T tv tb J (putQ q p n) w' := by
  obtain ⟨H, c, m, v, A, hu, hk, a1, a2, a3⟩ := h
  exact (lput_any p n a1 hp h1 h2 hn2 hpu).mono fun e w' hr => ⟨hr.1, lz_step a2 hr.2⟩
def ZPopRet (w : World) (S : Nat → Prop) (K T : Nat) (tv : Value) (tb : Option Nat) (J : List Joint) (f : Int × Int → Int) (q : Qm) (e : Ending) (w' : World) : Prop :=
  ∃ o l n, Pops J f q.ents o l n ∧ e = .returned (popV o) ∧ LzStep w S K T tv tb J (popQ q o l n) w'
set_option maxRecDepth 100000 in
theorem zpop_any {g : Nat} {lb : Array Value} {f : Int × Int → Int} {E : World → Prop} {Bk : Nat → Prop} (L : LiveF g lb f E Bk) (h : Lz w S K T tv tb J q) (hE : E w) (hap : ∀ k, S k → ¬ Bk k) (hpu : q.pu ≤ 80000) :
    Calls Try.prog 14 #[.pointer (some ⟨K, 0, none⟩), .func (.func g) #[] lb] w (ZPopRet w S K T tv tb J f q) := by
  obtain ⟨H, c, m, v, A, hu, hk, a1, a2, a3⟩ := h
  exact (lpop_any L a1 hE (fun k hk1 => hap k (a2 k (by rcases hk1 with h | h; exact .inl h; exact .inr (.inr h)))) hpu).mono fun e w' hr => by
    obtain ⟨o, l, n, r1, r2, r3⟩ := hr
    exact ⟨o, l, n, r1, r2, lz_step a2 r3⟩
set_option maxRecDepth 100000 in
theorem zlen_any (h : Lz w S K T tv tb J q) : Calls Try.prog 17 #[.pointer (some ⟨K, 0, none⟩)] w fun e w' => e = .returned (.int .i64 (q.ents.length : Int)) ∧ w' = w := by
  obtain ⟨H, c, m, v, A, hu, hk, a1, a2, a3⟩ := h
  exact llen_any a1
set_option maxRecDepth 100000 in
theorem zknown_any (h : Lz w S K T tv tb J q) : Calls Try.prog 18 #[.pointer (some ⟨K, 0, none⟩)] w fun e w' => e = .returned (.int .i64 (q.known.length : Int)) ∧ w' = w := by
  obtain ⟨H, c, m, v, A, hu, hk, a1, a2, a3⟩ := h
  exact lknown_any a1
set_option maxRecDepth 100000 in
theorem zstats_any (h : Lz w S K T tv tb J q) : Calls Try.prog 19 #[.pointer (some ⟨K, 0, none⟩)] w fun e w' => e = .returned (statsV q.pu q.po q.pk q.re) ∧ Grown w w' := by
  obtain ⟨H, c, m, v, A, hu, hk, a1, a2, a3⟩ := h
  exact lstats_any a1
/-! What is live: always the same number; what a count of the document's tells. -/
set_option maxRecDepth 100000 in
theorem live_two : LiveF 24 #[] (fun _ => 2) (fun _ => True) (fun _ => False) where
  enter := enters_of Try.func24 (by kernel_rfl) rfl
  calls := fun a b w _ _ => by
    have HG : Hid (Grown w (w.alloc (.cells #[.int .i64 a, .int .i64 b] 41))) := Lib.hid ((Grown.refl w).alloc _)
    show Calls Try.prog 24 #[.agg #[.int .i64 a, .int .i64 b]] w _
    go_enter Try.func24, Try.ntmps24
    go_wp2
    go_ret
    exact ⟨rfl, HG.out⟩
  keep := fun _ _ _ _ _ => trivial
  lt := fun _ _ _ h => h.elim
set_option maxRecDepth 100000 in
/-- The awake's example, in plain words. -/
theorem awake_pops : Pops [] (fun _ => 2) [(97, 98, 3), (97, 98, 2)] (.some (97, 98, 2)) [] 2 :=
  .miss (List.Perm.refl _) (by
    intro y hy
    simp only [List.mem_cons, List.not_mem_nil, or_false] at hy
    rcases hy with rfl | rfl
    · exact better_irrefl _
    · simp [betterOf, icmp, cmpI]) (by decide) (.hit (List.Perm.refl _) (by
    intro y hy
    rw [List.mem_singleton] at hy
    subst hy
    exact better_irrefl _) rfl)
set_option maxRecDepth 100000 in
theorem awake_put : putQ (putQ newQ (97, 98) 3) (97, 98) 2 = ⟨[(97, 98, 3), (97, 98, 2)], [((97, 98), 2)], 2, 0, 2, 0⟩ := by rfl
set_option maxRecDepth 100000 in
theorem there_byte {J : List Joint} {a : Int} (h0 : 0 ≤ a) (h1 : a ≤ 255) : thereOf J a = true := there_iff.2 ⟨h0, by rw [texts_len]; omega⟩
end Go.Proofs.Ytbnekkcjkdghcaa
