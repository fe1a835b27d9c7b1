/- How often each couple is there: the program's couples, walked. -/
import Derived.Test.YtbacbgpemaldbaaNpM
import Derived.Test.YtbacbgpemaldbaaNvW
namespace Go.Proofs.Ytbacbgpemaldbaa
open Go.RowKit

/-- What is counted ahead of place j of word i. -/
def CoF (WW : List (List ByteArray)) (C : List Int) (i : Nat) (W : List ByteArray) (c : Int) (j : Nat) : Mg → Int := fun m => cntW m (WW.take i) (C.take i) + (cntT m (W.take j) : Int) * c
def CoG (WW : List (List ByteArray)) (C : List Int) (i : Nat) : Mg → Int := fun m => cntW m (WW.take i) (C.take i)
variable {WW : List (List ByteArray)} {C : List Int} {W : List ByteArray} {c : Int} {i j : Nat}
set_option maxRecDepth 100000 in
theorem cof_one : CoF WW C i W c 1 = CoG WW C i := by
  funext m
  unfold CoF CoG
  rw [cnt_take_one]
  simp
set_option maxRecDepth 100000 in
theorem cof_step (h : j + 1 < W.length) : addM (CoF WW C i W c (j + 1)) (W[j]'(by omega), W[j + 1]) c = CoF WW C i W c (j + 2) := by
  funext m
  unfold addM CoF
  rw [cnt_take h]
  have e : m = (W[j]'(by omega), W[j + 1]) ↔ (W[j]'(by omega) = m.1 ∧ W[j + 1] = m.2) := ⟨fun e => by rw [e]; exact ⟨rfl, rfl⟩, fun e => Prod.ext e.1.symm e.2.symm⟩
  by_cases h1 : m = (W[j]'(by omega), W[j + 1])
  · rw [if_pos h1, if_pos (e.1 h1), Int.natCast_add, Int.add_mul]
    omega
  · rw [if_neg h1, if_neg fun h2 => h1 (e.2 h2)]
    simp
set_option maxRecDepth 100000 in
theorem cof_end (hi : i < WW.length) (hc : i < C.length) (h1 : 1 ≤ C[i]) (hj : WW[i].length ≤ j) : CoF WW C i WW[i] C[i] j = CoG WW C (i + 1) := by
  funext m
  unfold CoF CoG
  rw [cntW_next hi hc, if_pos h1, List.take_of_length_le hj]
set_option maxRecDepth 100000 in
theorem cog_skip (hi : i < WW.length) (hc : i < C.length) (h1 : C[i] < 1) : CoG WW C (i + 1) = CoG WW C i := by
  funext m
  unfold CoG
  rw [cntW_next hi hc, if_neg (by omega)]
  simp
set_option maxRecDepth 100000 in
theorem cof_cap (hi : i < WW.length) (hc : i < C.length) (h1 : 1 ≤ C[i]) (m : Mg) (j : Nat) : CoF WW C i WW[i] C[i] j m ≤ capW WW C := cntW_mid hi hc h1 j
def CoRel1 (WW : List (List ByteArray)) (C : List Int) (w : World) (b K : Nat) (x : Value) (wr : World) : Prop :=
  ∃ i N : Nat, x = .int .i64 (i : Int) ∧ i ≤ K ∧ CoMap wr b N (CoG WW C i) ∧ N ≤ allT (WW.take i) ∧ Below w.heap.size w wr
def CoRel2 (WW : List (List ByteArray)) (C : List Int) (w : World) (b A i l : Nat) (W : List ByteArray) (c : Int) (x : Value) (wr : World) : Prop :=
  ∃ j N : Nat, x = .int .i64 (j : Int) ∧ 1 ≤ j ∧ (j ≤ l ∨ j = 1) ∧ CoMap wr b N (CoF WW C i W c j) ∧ N + 1 ≤ A + j ∧ Below w.heap.size w wr
def CoRet (WW : List (List ByteArray)) (C : List Int) (w : World) (e : Ending) (w' : World) : Prop :=
  ∃ b N, e = .returned (.map (some b)) ∧ CoMap w' b N (fun m => cntW m WW C) ∧ w.heap.size ≤ b ∧ Below w.heap.size w w'
set_option maxRecDepth 100000 in
theorem cog_all {K : Nat} (h : K = min WW.length C.length) : CoG WW C K = fun m => cntW m WW C := by
  funext m
  unfold CoG
  exact cntW_all (by omega)
set_option maxRecDepth 100000 in
/-- What adding does, with all that was there kept. -/
theorem co_adds {w wr : World} {b N A l : Nat} (hi : i < WW.length) (hc : i < C.length) (h1 : 1 ≤ C[i]) (hW : WW[i] = W) (hcc : C[i] = c) (hj : j + 1 < W.length) (hm : CoMap wr b N (CoF WW C i W c (j + 1))) (hA : N + 1 ≤ A + (j + 1)) (hcap : capW WW C ≤ 9223372036854775807) (hN : N ≤ 1000000)
    (hf : FitsM (W[j]'(by omega), W[j + 1])) (hb : w.heap.size ≤ b) (hbel : Below w.heap.size w wr) (hl : W.length = l) :
    ∃ w2 w3 v0 st g, CoF WW C i W c (j + 1) (W[j]'(by omega), W[j + 1]) = g ∧ CoRuns wr.drew b N (CoF WW C i W c (j + 1)) (W[j]'(by omega), W[j + 1]) c w2 w3 v0 st ∧ CoRel2 WW C w b A i l W c (.int .i64 ((j + 2 : Nat) : Int)) w3 ∧ IntKind.i64.wrap (g + c) = g + c := by
  subst hW hcc
  have hs := congrFun (cof_step (WW := WW) (C := C) (i := i) (c := C[i]) hj) (WW[i][j]'(by omega), WW[i][j + 1])
  unfold addM at hs
  rw [if_pos rfl] at hs
  have h2 := cof_cap hi hc h1 (WW[i][j]'(by omega), WW[i][j + 1]) (j + 2)
  have hm' : CoMap wr.drew b N (CoF WW C i WW[i] C[i] (j + 1)) := hm.kept rfl
  have h0 : 0 ≤ CoF WW C i WW[i] C[i] (j + 1) (WW[i][j]'(by omega), WW[i][j + 1]) := by obtain ⟨_, _, _, h⟩ := hm; exact h _
  obtain ⟨w2, w3, v0, st, R⟩ := co_runs hm' hf h1 (by omega) hN
  refine ⟨w2, w3, v0, st, _, rfl, R, ⟨j + 2, N + 1, rfl, by omega, .inl (by omega), ?_, by omega, ?_⟩, IntWalk.i64_in _ (by omega)⟩
  · rw [← cof_step hj]; exact R.there
  · exact (hbel.trans ((Below.refl _ wr).drew.mono hbel.size)).grown R.turn3.grown (by have := hbel.size; exact this) fun g e => by cases e; exact hb
end Go.Proofs.Ytbacbgpemaldbaa
