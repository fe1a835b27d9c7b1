/- A range over a function whose iterator turns memory of its own: the iterator's contract by states, and the law of the statement. -/
import Derived.RangeFuncNested
import Derived.RangeFuncBound
import Derived.RangeFuncCalls
import Derived.RangeFuncLeaves
import Derived.Test.YtbnekkcjkdghcaaRows
namespace Go.Proofs.Ytbnekkcjkdghcaa
open Go.RowKit

/-- From W to V nothing that holds cells has turned, and nothing below block B; blocks may have come. -/
structure Blink (B : Nat) (W V : World) : Prop where
  os : V.os = W.os
  tape : V.tape = W.tape
  output : V.output = W.output
  size : W.heap.size ≤ V.heap.size
  low : ∀ k : Nat, k < B → k < W.heap.size → V.heap[k]? = W.heap[k]?
  cells : ∀ (k : Nat) (o : Obj), W.heap[k]? = some o → o.isCells = true → V.heap[k]? = some o
set_option maxRecDepth 100000 in
theorem Blink.refl (B : Nat) (W : World) : Blink B W W := ⟨rfl, rfl, rfl, Nat.le_refl _, fun _ _ _ => rfl, fun _ _ h _ => h⟩
set_option maxRecDepth 100000 in
theorem Blink.trans {B : Nat} {W V U : World} (h : Blink B W V) (k : Blink B V U) : Blink B W U :=
  ⟨k.os.trans h.os, k.tape.trans h.tape, k.output.trans h.output, Nat.le_trans h.size k.size, fun i hi hw => (k.low i hi (Nat.lt_of_lt_of_le hw h.size)).trans (h.low i hi hw), fun i o ho hc => k.cells i o (h.cells i o ho hc) hc⟩
set_option maxRecDepth 100000 in
theorem Blink.alloc (B : Nat) (W : World) (o : Obj) : Blink B W (W.alloc o) :=
  ⟨rfl, rfl, rfl, by simp, fun k _ hk => Below.heap_alloc _ _ _ hk, fun k _ hk _ => (Below.heap_alloc W o k (Array.getElem?_eq_some_iff.1 hk).1).trans hk⟩
set_option maxRecDepth 100000 in
theorem Blink.putObj {B l : Nat} {W : World} {o : Obj} (o' : Obj) (hB : B ≤ l) (h : W.heap[l]? = some o) (hc : o.isCells = false) : Blink B W (W.putObj l o') :=
  ⟨rfl, rfl, rfl, by simp, fun k hk _ => World.putObj_heap_other (by omega), fun k p hk hp => by
    by_cases e : k = l
    · subst e; rw [h] at hk; cases hk; rw [hc] at hp; cases hp
    · exact (World.putObj_heap_other e).trans hk⟩
set_option maxRecDepth 100000 in
theorem Blink.below {B b : Nat} {W V : World} (h : Blink B W V) (hb : b ≤ B) (hw : b ≤ W.heap.size) : Below b W V :=
  ⟨h.os, h.tape, h.output, h.size, fun k hk => h.low k (by omega) (by omega)⟩

/-- The contract of an iterator: in a state s it hands an x and comes to a state s', or is at its end; what its steps turn, Fr says. -/
def SeqHand {σ α : Type} (F : Fence) (n : Nat) (P : Program) (gf : Nat) (lb : Array Value) (encs : α → Array Value) (Own : σ → World → Prop) (Fr : σ → World → World → Prop) (Nx : σ → α → σ → Prop) (Fin : σ → Prop) : Prop :=
  ∀ (l : Nat) (J : σ → World → Prop) (Jx Je : World → Prop) (W : World) (s0 : σ),
    (∀ s W, J s W → Own s W) →
    (∀ s x s' W V, J s W → Nx s x s' → Own s' V → Fr s W V → YieldAt F (n - 1) P l (encs x) V fun e U => (e = .returned (.bool true) ∧ J s' U) ∨ (e = .returned (.bool false) ∧ Jx U)) →
    (∀ s W V, J s W → Fin s → Own s V → Fr s W V → Je V) →
    J s0 W →
    CallsIn F n P gf (#[.func (.yield l) #[] #[]] ++ lb) W fun e V => (∃ v, e = .returned v) ∧ (Je V ∨ Jx V)
/-- How a round may be left. -/
def rngPost {σ : Type} (I : σ → World → Prop) (Ix : Code → World → Prop) (s : σ) (W : World) : Exit → Act → World → Prop
  | .normal, _, V => KeepsOthers W V ∧ I s V
  | .ret, _, V => KeepsOthers W V ∧ Ix .ret V
  | .exit id, _, V => KeepsOthers W V ∧ Ix (.exit id) V
  | .goto t, _, V => KeepsOthers W V ∧ Ix (.goto t) V
  | .panic _, _, _ => False
  | .outgrown, _, _ => False
variable {F : Fence} {n : Nat} {P : Program}
set_option maxRecDepth 100000 in
/-- The statement 'for x := range g { .. }'. -/
theorem wpIn_range_hand {σ α : Type} {g : Operand} {ps : Array Tmp} {assign body : Code} {Q : Exit → Act → World → Prop} {a : Act} {w : World}
    (hro : F.round = none) (h1 : 1 ≤ n) {gf : Nat} {lb : Array Value} (hg : a.eval g = .func (.func gf) #[] lb) (hFg : F.fn gf) (eg : ∀ args w, (callFunc gf args).run P w = .ok (.enter gf args) w)
    {encs : α → Array Value} {Own : σ → World → Prop} {Fr : σ → World → World → Prop} {Nx : σ → α → σ → Prop} {Fin : σ → Prop} (hseq : SeqHand F (n - 1) P gf lb encs Own Fr Nx Fin) (hps : ∀ x, (encs x).size = ps.size)
    (hFo : ∀ s W V, Own s W → Fr s W V → KeepsOthers W V)
    (I : σ → World → Prop) (Ix : Code → World → Prop) (Ie : World → Prop) (s0 : σ)
    (hO : ∀ s W, I s W → Own s W) (hI : ∀ s W V, I s W → Blink w.heap.size W V → I s V) (hIx : ∀ c W V, Ix c W → Blink w.heap.size W V → Ix c V) (hIe : ∀ W V, Ie W → Blink w.heap.size W V → Ie V) (h0 : I s0 w)
    (hend : ∀ s W V, I s W → Fin s → Own s V → Fr s W V → Ie V)
    (hround : ∀ (l : Nat) s x s' W V, I s W → Nx s x s' → Own s' V → Fr s W V →
      assign.wpIn (F.inRound l) (n - 1 - 1) P (Exit.then (fun a₁ V₁ => KeepsOthers V V₁ ∧ ∀ V₂, Blink w.heap.size V₁ V₂ → body.wpIn (F.inRound l) (n - 1 - 1) P (rngPost I Ix s' V₂) a₁ V₂) (fun _ _ _ => False))
        { tmps := (ps.zip (encs x)).foldl (fun t (p, v) => t.setIfInBounds p v) a.tmps, defers := [] } V)
    (hdone : ∀ (D : Nat) (W : World), Ie W → W.heap[D]? = some (.deferred (some [])) → w.heap.size ≤ D → Q .normal { a with defers := { target := .collected D, args := #[] } :: a.defers } W)
    (hstop : ∀ (D : Nat) (c : Code) (W : World), Ix c W → W.heap[D]? = some (.deferred (some [])) → w.heap.size ≤ D → c.wpIn F n P Q { a with defers := { target := .collected D, args := #[] } :: a.defers } W) :
    (Code.rangeFunc g ps assign body).wpIn F n P Q a w := by
  refine wpIn_rangeFunc ?_
  intro fn hfn
  rw [hro]
  obtain ⟨rec, hrec⟩ : ∃ rec : LoopState → Option Code → Loop, rec = fun st pe => { state := st, pending := pe, fn, tmps := a.tmps, params := ps, assign, body, defers := w.heap.size } := ⟨_, rfl⟩
  obtain ⟨W1, hW1⟩ : ∃ W1, (w.alloc (.deferred (some []))).alloc (.loop (rec .ready none)) = W1 := ⟨_, rfl⟩
  have hL1 : W1.heap[w.heap.size + 1]? = some (.loop (rec .ready none)) := by
    rw [← hW1]; have := World.alloc_heap_new (w.alloc (.deferred (some []))) (.loop (rec .ready none)); rwa [World.size_alloc] at this
  have hK1 : W1.heap[w.heap.size]? = some (.deferred (some [])) := by
    rw [← hW1]; exact (Below.heap_alloc _ _ _ (by simp)).trans (World.alloc_heap_new w _)
  have hI1 : I s0 W1 := hI _ _ _ h0 (by rw [← hW1]; exact (Blink.alloc _ _ _).trans (Blink.alloc _ _ _))
  refine ⟨w.heap.size + 1, [{ target := .collected w.heap.size, args := #[] }], W1, { target := .fn (.func gf) lb, args := #[.func (.yield (w.heap.size + 1)) #[] #[]] }, W1, gf,
    #[.func (.yield (w.heap.size + 1)) #[] #[]] ++ lb, W1, ?_, ?_, ?_, ?_, fun _ => h1, ?_⟩
  · rw [← hW1, hrec]; exact run_enterLoop_outer _ _ _ _ _
  · simp only [resolve, hg]
    simp [go_sem]
  · intro f' hf'; simp [Target.leads] at hf'; subst hf'; exact hFg
  · simp [invoke, go_sem, eg]
  · refine (hseq (w.heap.size + 1)
      (fun s W => I s W ∧ W.heap[w.heap.size + 1]? = some (.loop (rec .ready none)) ∧ W.heap[w.heap.size]? = some (.deferred (some [])))
      (fun W => ∃ c, Ix c W ∧ W.heap[w.heap.size + 1]? = some (.loop (rec .done (some c))) ∧ W.heap[w.heap.size]? = some (.deferred (some [])))
      (fun W => Ie W ∧ W.heap[w.heap.size + 1]? = some (.loop (rec .ready none)) ∧ W.heap[w.heap.size]? = some (.deferred (some [])))
      W1 s0 (fun s W h => hO s W h.1) ?_ ?_ ⟨hI1, hL1, hK1⟩).mono ?_
    · rintro s x s' W V ⟨hi, hl, hk⟩ hn ho hf
      have hkeep := hFo s W V (hO s W hi) hf
      have hlV := hkeep.same _ _ hl rfl
      have hkV := hkeep.same _ _ hk rfl
      have hy := run_yield (P := P) (args := encs x) hlV (by rw [hrec]; exact hps x)
      rw [hrec] at hy
      refine ⟨fn, _, assign, body, hy, roundIn_of_wpIn hfn (wpIn_mono (hround (w.heap.size + 1) s x s' W V hi hn ho hf) ?_)⟩
      intro e a₁ V₁ hp
      cases e with
      | normal =>
        obtain ⟨hk1, hb⟩ := hp
        have hl1 := hk1.same _ _ hlV rfl
        have hd1 := hk1.same _ _ hkV rfl
        refine ⟨_, run_beginRound hl1 (by rw [hrec]), ?_⟩
        have hlt : w.heap.size + 1 < V₁.heap.size := (Array.getElem?_eq_some_iff.1 hl1).1
        have hl2 : (V₁.putObj (w.heap.size + 1) (.loop { rec .ready none with state := .busy })).heap[w.heap.size + 1]? = some (.loop { rec .ready none with state := .busy }) := World.putObj_heap_same hlt
        have hk2 : (V₁.putObj (w.heap.size + 1) (.loop { rec .ready none with state := .busy })).heap[w.heap.size]? = some (.deferred (some [])) := (World.putObj_heap_other (by omega)).trans hd1
        have fin : ∀ (jump : Option Code) (W3 : World), KeepsOthers (V₁.putObj (w.heap.size + 1) (.loop { rec .ready none with state := .busy })) W3 →
            (Instr.endRound (w.heap.size + 1) jump).run P W3 = .ok (.bool jump.isNone) (W3.putObj (w.heap.size + 1) (.loop (rec (if jump.isNone then .ready else .done) jump))) ∧
            W3.heap[w.heap.size + 1]? = some (.loop { rec .ready none with state := .busy }) ∧
            (W3.putObj (w.heap.size + 1) (.loop (rec (if jump.isNone then .ready else .done) jump))).heap[w.heap.size + 1]? = some (.loop (rec (if jump.isNone then .ready else .done) jump)) ∧
            (W3.putObj (w.heap.size + 1) (.loop (rec (if jump.isNone then .ready else .done) jump))).heap[w.heap.size]? = some (.deferred (some [])) := fun jump W3 hk3 => by
          have hl3 := hk3.same _ _ hl2 rfl
          have := run_endRound (P := P) jump hl3
          rw [hrec] at this ⊢
          exact ⟨this, by rw [hrec] at hl3; exact hl3, World.putObj_heap_same (Array.getElem?_eq_some_iff.1 hl3).1, (World.putObj_heap_other (by omega)).trans (hk3.same _ _ hk2 rfl)⟩
        refine wpIn_mono (hb _ (Blink.putObj _ (by omega) hl1 rfl)) ?_
        intro e2 a3 W3 hp2
        cases e2 with
        | normal =>
          obtain ⟨hk3, hi3⟩ := hp2
          obtain ⟨hr, hl3, hl4, hk4⟩ := fin none W3 hk3
          exact ⟨_, _, hr, .inl ⟨rfl, hI _ _ _ hi3 (Blink.putObj _ (by omega) hl3 rfl), hl4, hk4⟩⟩
        | ret =>
          obtain ⟨hk3, hi3⟩ := hp2
          obtain ⟨hr, hl3, hl4, hk4⟩ := fin (some .ret) W3 hk3
          exact ⟨_, _, hr, .inr ⟨rfl, .ret, hIx _ _ _ hi3 (Blink.putObj _ (by omega) hl3 rfl), hl4, hk4⟩⟩
        | exit id =>
          obtain ⟨hk3, hi3⟩ := hp2
          obtain ⟨hr, hl3, hl4, hk4⟩ := fin (some (.exit id)) W3 hk3
          exact ⟨_, _, hr, .inr ⟨rfl, .exit id, hIx _ _ _ hi3 (Blink.putObj _ (by omega) hl3 rfl), hl4, hk4⟩⟩
        | goto t =>
          obtain ⟨hk3, hi3⟩ := hp2
          obtain ⟨hr, hl3, hl4, hk4⟩ := fin (some (.goto t)) W3 hk3
          exact ⟨_, _, hr, .inr ⟨rfl, .goto t, hIx _ _ _ hi3 (Blink.putObj _ (by omega) hl3 rfl), hl4, hk4⟩⟩
        | panic ch => exact hp2.elim
        | outgrown => exact hp2.elim
      | ret => exact hp.elim
      | exit id => exact hp.elim
      | goto t => exact hp.elim
      | panic ch => exact hp.elim
      | outgrown => exact hp.elim
    · rintro s W V ⟨hi, hl, hk⟩ hfin ho hf
      have hkeep := hFo s W V (hO s W hi) hf
      exact ⟨hend s W V hi hfin ho hf, hkeep.same _ _ hl rfl, hkeep.same _ _ hk rfl⟩
    · rintro e W2 ⟨⟨v, rfl⟩, (⟨hi, hl, hk⟩ | ⟨c, hi, hl, hk⟩)⟩
      · exact ⟨none, _, by have := run_endLoop (P := P) hl (by rw [hrec]; simp); rw [hrec] at this; exact this, hdone _ _ (hIe _ _ hi (Blink.putObj _ (by omega) hl rfl)) ((World.putObj_heap_other (by omega)).trans hk) (Nat.le_refl _)⟩
      · exact ⟨some c, _, by have := run_endLoop (P := P) hl (by rw [hrec]; simp); rw [hrec] at this; exact this, hstop _ c _ (hIx _ _ _ hi (Blink.putObj _ (by omega) hl rfl)) ((World.putObj_heap_other (by omega)).trans hk) (Nat.le_refl _)⟩
end Go.Proofs.Ytbnekkcjkdghcaa
