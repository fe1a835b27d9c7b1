/- The laws' order, their heaps, and their example. -/
import Derived.Test.YtnonkhnajloloaaHeapG
import Derived.Test.YtnonkhnajloloaaHeapF
import Derived.Test.YtnonkhnajloloaaIntsQ
namespace Go.Proofs.Ytnonkhnajloloaa
open Go.RowKit Go.Shelf
open Go.Sort (grow grow_empty grow_grow alloc_eq_grow heap_grow_old)
attribute [local go_sem] Oper.semAt_some
variable {w w' : World} {B K : Nat} {fv v : Value} {A : List It} {pu pk : Int} {bt : It → It → Bool}

set_option maxRecDepth 100000 in
/-- 'append(a, b...)' in a round. -/
theorem wpListIn_append_elts {F : Fence} {n : Nat} {α : Type} (R : Elt α) {w : World} {ops : Array Oper} {rest : List Oper} {o : Oper} {a : Act} {Q : Exit → Act → World → Prop} (hgd : o.guard = none) (s x : Operand)
    (ho : o.op = .call { callee := .builtin .append, args := #[s, x], argTypes := #[R.sl, R.sl] }) (base : Nat) (v y : Value) (A B : List α) (hs : a.eval s = v) (hx : a.eval x = y)
    (hA : ownE R w base v A) (hB : eltsAt R w y B) (hnil : nilNone y) (hl : A.length + B.length ≤ 1048576) (hb : base ≤ w.heap.size)
    (h : ∀ r w', ownE R w' base r (A ++ B) → w.grownBy w' v.ownBlock → (r.ownBlock = v.ownBlock ∨ r.ownBlock = some w.heap.size) → wpListIn F n Try.prog ops Q rest (a.put o.dst r) w') : wpListIn F n Try.prog ops Q (o :: rest) a w := by
  refine wpListIn_plain hgd fun K hK' => ?_
  obtain ⟨r, w', hr, h2, h3, h4⟩ := run_append_elts R o.type hA hB hnil hl hb
  unfold Oper.wpIn
  refine ⟨?_, ?_⟩
  · simp [Oper.about, ho, resolve, Target.leads, Sem.run_pure]
  · rw [Oper.semAt_plain F _ _ (by rw [ho]; intro c hc'; cases hc')]
    simp [execOp, ho, resolve, invoke, builtin, hs, hx, hr, Result.andThen]
    exact hK' _ _ (h r w' h2 h3 h4)
def btI (a b : It) : Bool := decide (b.1 < a.1)
set_option maxRecDepth 100000 in
theorem btI_ranks : Ranks btI where
  asym := fun a b h => by simp only [btI, decide_eq_true_eq, decide_eq_false_iff_not] at h ⊢; omega
  ntr := fun a b c h k => by simp only [btI, decide_eq_false_iff_not] at h k ⊢; omega
set_option maxRecDepth 100000 in
theorem bet_of : Bet 23 #[] btI where
  enter := enters_of Try.func23 (by kernel_rfl) rfl
  ranks := btI_ranks
  calls := fun a b w => by
    have HG : Hid (Grown w ((w.alloc (.cells #[.int .i64 a.1, .int .i64 a.2] 32)).alloc (.cells #[.int .i64 b.1, .int .i64 b.2] 32))) := Lib.hid (((Grown.refl w).alloc _).alloc _)
    unfold btI itV
    show Calls Try.prog 23 #[.agg #[.int .i64 a.1, .int .i64 a.2], .agg #[.int .i64 b.1, .int .i64 b.2]] w _
    go_enter Try.func23, Try.ntmps23
    go_wp2
    go_ret
    exact ⟨rfl, HG.out⟩
set_option maxRecDepth 100000 in
theorem bet_same : Bet 21 #[] btI where
  enter := enters_of Try.func21 (by kernel_rfl) rfl
  ranks := btI_ranks
  calls := fun a b w => by
    have HG : Hid (Grown w ((w.alloc (.cells #[.int .i64 a.1, .int .i64 a.2] 32)).alloc (.cells #[.int .i64 b.1, .int .i64 b.2] 32))) := Lib.hid (((Grown.refl w).alloc _).alloc _)
    unfold btI itV
    show Calls Try.prog 21 #[.agg #[.int .i64 a.1, .int .i64 a.2], .agg #[.int .i64 b.1, .int .i64 b.2]] w _
    go_enter Try.func21, Try.ntmps21
    go_wp2
    go_ret
    exact ⟨rfl, HG.out⟩
abbrev ofV : Value := fnV 23 #[]
set_option maxRecDepth 100000 in
/-- The law's own heap of items. -/
theorem mk_any (x : Value) (L : List It) (w : World) (h : eltsAt itE w x L) (hn : nilNone x) (hL : L.length ≤ 100000) :
    Calls Try.prog 8 #[x] w (OfRet w ofV L btI) := by
  have HA : Hid (ownE itE (w.alloc (.cells #[] 32)) w.heap.size (.slice (some ⟨w.heap.size, 0, none⟩) 0 0) []) := Lib.hid ⟨rfl, .inr ⟨w.heap.size, 0, #[], rfl, Nat.le_refl _, heap_alloc_new w _, Nat.le_refl _, by unfold maxLen; omega, rfl, rfl⟩⟩
  have HB : Hid (Below w.heap.size w (w.alloc (.cells #[] 32))) := Lib.hid ((Below.refl _ w).alloc (Nat.le_refl _) _)
  have HE : Hid (eltsAt itE (w.alloc (.cells #[] 32)) x L) := Lib.hid (h.below HB.out (Nat.le_refl _))
  have HN := Lib.hid hn
  have HL := Lib.hid hL
  clear h hn hL
  go_enter Try.func8, Try.ntmps8
  go_wp2_with (at_builtin; refine wpList_append_elts itE rfl (.tmp 3) (.tmp 4) rfl w.heap.size _ _ [] L rfl rfl HA.out HE.out HN.out (by have := HL.out; simp; omega) HB.out.size ?_; intro r w2 ho hg _; have HO := Lib.hid ho; have HG := Lib.hid hg; clear ho hg)
  have hB2 : Below w.heap.size w w2 := HB.out.grown HG.out HB.out.size fun g e => (HA.out.lt g e).1
  have cO := of_any bet_of r L w2 (by have := HO.out.reads; rwa [List.nil_append] at this) HO.out.nilNone HL.out
  have HB2 := Lib.hid hB2
  clear hB2
  go_wp2_with fail
  refine cO.mono ?_
  rintro e w3 ⟨K, v, A, rfl, hp, hh, ho, hb⟩
  have HP := Lib.hid hp; have HH := Lib.hid hh; have HO3 := Lib.hid ho; have HB3 := Lib.hid hb
  clear hp hh ho hb cO
  go_wp2
  go_ret
  exact ⟨K, v, A, rfl, HP.out, HH.out, HO3.out.mono HB2.out.size, HB2.out.trans (HB3.out.mono HB2.out.size)⟩
def seqV (N : Nat) : Value := .func (.func 26) #[] #[.pointer (some ⟨N, 0, none⟩)]
set_option maxRecDepth 100000 in
theorem drain_any (K : Nat) (w : World) : Calls Try.prog 18 #[.pointer (some ⟨K, 0, none⟩)] w fun e w' => e = .returned (seqV w.heap.size) ∧ w' = w.alloc (.cells #[.pointer (some ⟨K, 0, none⟩)] 24) := by
  go_enter Try.func18, Try.ntmps18
  go_wp2
  go_ret
  exact ⟨rfl, rfl⟩
set_option maxRecDepth 100000 in
theorem Try.isSeq (g : Nat) (lb : Array Value) (w : World) : (binOp BinOp.eql 40 (Value.func (Fn.func g) #[] lb) Value.nilFunc).run Try.prog w = .ok (.bool false) w := by kernel_rfl
/-- What has come, and what is left, of the document's example. -/
def AwR (G : List Int) (A : List It) : Prop :=
  (G = [] ∧ A.Perm [(3, 0), (1, 0), (2, 0)]) ∨ (G = [3] ∧ A.Perm [(1, 0), (2, 0)]) ∨ (G = [3, 2] ∧ A.Perm [(1, 0)]) ∨ (G = [3, 2, 1] ∧ A = [])
set_option maxRecDepth 100000 in
theorem awR_step {G : List Int} {x : It} {t A' : List It} (h : AwR G (x :: t)) (hh : HeapFrom btI (x :: t) 0) (hp : A'.Perm t) : AwR (G ++ [x.1]) A' ∧ G.length ≤ 2 := by
  have hb : ∀ y ∈ x :: t, y.1 ≤ x.1 := fun y hy => by
    have := heap_best btI_ranks hh (by simp) y hy
    simp only [btI, decide_eq_false_iff_not, List.getElem_cons_zero] at this
    omega
  rcases h with ⟨rfl, h⟩ | ⟨rfl, h⟩ | ⟨rfl, h⟩ | ⟨rfl, h⟩
  · have h1 := hb (3, 0) (h.mem_iff.2 (by simp))
    have h2 := h.mem_iff.1 (List.mem_cons_self (a := x) (l := t))
    have hx : x = (3, 0) := by
      simp only [List.mem_cons, List.not_mem_nil, or_false] at h2
      rcases h2 with rfl | rfl | rfl
      · rfl
      · simp at h1
      · simp at h1
    subst hx
    exact ⟨.inr (.inl ⟨rfl, hp.trans h.cons_inv⟩), by simp⟩
  · have h1 := hb (2, 0) (h.mem_iff.2 (by simp))
    have h2 := h.mem_iff.1 (List.mem_cons_self (a := x) (l := t))
    have hx : x = (2, 0) := by
      simp only [List.mem_cons, List.not_mem_nil, or_false] at h2
      rcases h2 with rfl | rfl
      · simp at h1
      · rfl
    subst hx
    exact ⟨.inr (.inr (.inl ⟨rfl, hp.trans (h.trans (List.Perm.swap _ _ _)).cons_inv⟩)), by simp⟩
  · have h2 := h.mem_iff.1 (List.mem_cons_self (a := x) (l := t))
    have hx : x = (1, 0) := by simpa using h2
    subst hx
    exact ⟨.inr (.inr (.inr ⟨rfl, (hp.trans h.cons_inv).eq_nil⟩)), by simp⟩
  · cases h
set_option maxRecDepth 100000 in
theorem awR_end {G : List Int} (h : AwR G []) : G = [3, 2, 1] := by
  rcases h with ⟨_, h⟩ | ⟨_, h⟩ | ⟨_, h⟩ | ⟨h, _⟩
  · have := h.length_eq; simp at this
  · have := h.length_eq; simp at this
  · have := h.length_eq; simp at this
  · exact h
set_option maxRecDepth 100000 in
theorem Hp.not_mine {k : Nat} {cs : Array Value} {t : TypeId} {fr : Nat × Nat} (h : Hp w B K fv v A pu pk) (hk : w.heap[k]? = some (.cells cs t fr)) (h1 : t ≠ 50) (h2 : t ≠ 32) : ¬ mine K v k := by
  rintro (e | e)
  · have hb := h.box
    rw [← e, hk] at hb
    cases hb
    exact h1 rfl
  · obtain ⟨cs2, hc⟩ := h.row.block k e.symm
    rw [hk] at hc
    cases hc
    exact h2 rfl
end Go.Proofs.Ytnonkhnajloloaa
