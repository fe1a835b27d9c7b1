/- Texts in one: EHeapG. -/
import Derived.Test.YtnmacalbbmeedaaGreatQ32
import Derived.Test.YtnmacalbbmeedaaGreatQ29
import Derived.Shelf.Abstract
import Derived.Shelf.RegionOpen
import Derived.WalkKit
import Derived.OwnWalkIn
import Derived.TacticsInMore
import Derived.LoopNIn
import Derived.LoopIn
import Derived.Sort.LoopGhostIn
/- The heap's iterator: its contract. -/
namespace Go.Proofs.YtnmacalbbmeedaaGreat
open Go.RowKit Go.Shelf
open Go.Sort (grow grow_empty grow_grow alloc_eq_grow heap_grow_old)
attribute [local go_sem] Oper.semAt_some
variable {w w' : World} {B K : Nat} {fv v : Value} {A : List Ent} {pu pk : Int} {bt : Ent → Ent → Bool} {E : World → Prop} {Bk : Nat → Prop}

set_option maxRecDepth 100000 in
theorem Kept.others {S : Nat → Prop} {W V : World} (h : Kept S W V) (hS : ∀ k, S k → ∃ o : Obj, W.heap[k]? = some o ∧ o.isCells = true) : KeepsOthers W V :=
  ⟨h.size, fun k o hk hc => (h.block k (Array.getElem?_eq_some_iff.1 hk).1 fun hs => by
    obtain ⟨p, hp, hpc⟩ := hS k hs
    rw [hk] at hp; cases hp; rw [hc] at hpc; cases hpc).trans hk⟩
set_option maxRecDepth 100000 in
theorem Hp.blocks (h : Hp w B K fv v A pu pk) : ∀ k, mine K v k → ∃ o : Obj, w.heap[k]? = some o ∧ o.isCells = true := by
  rintro k (rfl | e)
  · exact ⟨_, h.box, rfl⟩
  · obtain ⟨cs, hc⟩ := h.row.block k e.symm
    exact ⟨_, hc, rfl⟩
set_option maxRecDepth 100000 in
theorem Hp.blink {b : Nat} (h : Hp w B K fv v A pu pk) (k : Blink b w w') : Hp w' B K fv v A pu pk :=
  h.kept fun i _ hi => by
    obtain ⟨o, ho, hc⟩ := h.blocks i hi
    exact (k.cells i o ho hc).trans ho.symm
set_option maxRecDepth 100000 in
theorem box_blink {b N : Nat} {cs : Array Value} {t : TypeId} {fr : Nat × Nat} (h : w.heap[N]? = some (.cells cs t fr)) (k : Blink b w w') : w'.heap[N]? = some (.cells cs t fr) := k.cells N _ h rfl
/-- A heap, and the box that its iterator finds it in. -/
def DOwn (B K : Nat) (fv : Value) (pu pk : Int) (bt : Ent → Ent → Bool) (E : World → Prop) (Bk : Nat → Prop) (N : Nat) (s : Value × List Ent) (W : World) : Prop :=
  Hp W B K fv s.1 s.2 pu pk ∧ HeapFrom bt s.2 0 ∧ W.heap[N]? = some (.cells #[.pointer (some ⟨K, 0, none⟩)] 108 (0, 0)) ∧ E W ∧ ∀ k, mine K s.1 k → ¬ Bk k
def DFr (K : Nat) (s : Value × List Ent) (W V : World) : Prop := Kept (mine K s.1) W V
def DNx (s : Value × List Ent) (x : Ent) (s' : Value × List Ent) : Prop := ∃ t, s.2 = x :: t ∧ s'.2.Perm t ∧ s'.1.ownBlock = s.1.ownBlock
def DFin (s : Value × List Ent) : Prop := s.2 = []
set_option maxRecDepth 100000 in
theorem box_apart {N : Nat} {s : Value × List Ent} (h : DOwn B K fv pu pk bt E Bk N s w) : ¬ mine K s.1 N := by
  rintro (e | e)
  · have h1 := h.1.box
    rw [← e, h.2.2.1] at h1
    have := congrArg (fun o => match o with | some (Obj.cells _ t _) => t | _ => 0) h1
    simp at this
  · obtain ⟨cs, hc⟩ := h.1.row.block N e.symm
    rw [h.2.2.1] at hc
    have := congrArg (fun o => match o with | some (Obj.cells _ t _) => t | _ => 0) hc
    simp [entE] at this
set_option maxRecDepth 100000 in
set_option maxHeartbeats 1000000 in
theorem drain_hand {g : Nat} {lb : Array Value} (b : Bet g lb bt E Bk) (N n : Nat) (hn : 1 ≤ n) :
    SeqHand Fence.wide n Tryz.prog 99 #[.pointer (some ⟨N, 0, none⟩)] (fun x => #[entV x]) (DOwn B K (fnV g lb) pu pk bt E Bk N) (DFr K) DNx DFin := fun l J Jx Je W s0 hJO hY hE h0 => by
  refine callsIn_of_wp Tryz.func99 rfl trivial ?_ rfl
  simp only [Tryz.ntmps99, List.size_toArray, List.length_cons, List.length_nil, Nat.reduceAdd, Nat.reduceSub, Array.replicate_succ, Array.replicate_zero, List.push_toArray, List.append_toArray, List.nil_append, List.cons_append]
  gi_wp2
  gi_loopg [] s0.2.length (fun kx wr => ∃ s : Value × List Ent, s.2.length ≤ kx ∧ J s wr)
  case atStart => exact ⟨s0, Nat.le_refl _, h0⟩
  case round =>
    obtain ⟨⟨v, A⟩, hlen, hj⟩ := hrel
    have HJ := Lib.hid hj
    obtain ⟨hp, hh, hb, hE0, hap⟩ := hJO _ _ hj
    have HE0 := Lib.hid hE0; have HAP := Lib.hid hap
    clear hE0 hap
    have c0 : wr.cell? ⟨N, 0, none⟩ = some (.pointer (some ⟨K, 0, none⟩)) := by rw [cell_of_row wr N 0 _ 108 (0, 0) hb]; rfl
    simp only at hp hh hlen
    cases A with
    | nil =>
      have cP := pop_none hp
      unfold topV topOf entV at cP
      have HB := Lib.hid hb
      clear hj hh hb hp
      gi_wp2_with fail
      refine ⟨trivial, (callsIn_wide.2 cP).mono ?_⟩
      rintro e w1 ⟨rfl, hp1, hb1⟩
      have HP1 := Lib.hid hp1; have HB1 := Lib.hid hb1
      clear hp1 hb1 cP
      have HE : Hid (Je (w1.alloc (.cells #[.int .i64 0, .int .i64 0, .int .i64 0, .int .i64 0, .int .i64 0, .int .i64 0] 111))) := Lib.hid (by
        have hbel : Below wr.heap.size wr (w1.alloc (.cells #[.int .i64 0, .int .i64 0, .int .i64 0, .int .i64 0, .int .i64 0, .int .i64 0] 111)) := HB1.out.alloc HB1.out.size _
        exact hE (v, []) wr _ HJ.out rfl ⟨HP1.out.below ((Below.refl _ w1).alloc (Nat.le_refl _) _), heap_empty bt, (hbel.block N (Array.getElem?_eq_some_iff.1 HB.out).1).trans HB.out, b.keep wr _ HE0.out hbel.size fun i hi _ => hbel.block i hi, HAP.out⟩ (Kept.of_below hbel (Nat.le_refl _)))
      gi_wp2
      refine ⟨fun _ h => (by cases h), ?_⟩
      gi_wp2
      refine bodyPost_ret (results_none rfl _ _ _) rfl ?_
      exact ⟨⟨_, rfl⟩, .inl HE.out⟩
    | cons a t =>
      obtain ⟨a1, a2, a3, a4, a5, a6⟩ := a
      have cP := pop_some b hp HE0.out HAP.out hh
      have HP := Lib.hid hp
      have HB := Lib.hid hb
      have HNA := Lib.hid (box_apart (hJO _ _ hj))
      have HLN := Lib.hid hlen
      clear hj hh hb hp hlen
      gi_wp2_with fail
      refine ⟨trivial, (callsIn_wide.2 cP).mono ?_⟩
      rintro e w1 ⟨rfl, v', A', hp1, hh1, ho1, hk1, hv1⟩
      obtain ⟨V, hV⟩ : ∃ V, w1.alloc (.cells #[.int .i64 a1, .int .i64 a2, .int .i64 a3, .int .i64 a4, .int .i64 a5, .int .i64 a6] 111) = V := ⟨_, rfl⟩
      have hkV : Kept (mine K v) wr V := by rw [← hV]; exact hk1.alloc _
      obtain ⟨fn, tmps, assign, body, hy, hR⟩ := hY (v, (a1, a2, a3, a4, a5, a6) :: t) (a1, a2, a3, a4, a5, a6) (v', A') wr V HJ.out ⟨t, rfl, hp1, hv1⟩ ⟨by rw [← hV]; exact ho1.below ((Below.refl _ w1).alloc (Nat.le_refl _) _), hh1, (hkV.block N (Array.getElem?_eq_some_iff.1 HB.out).1 HNA.out).trans HB.out, b.kept HE0.out hkV HAP.out, fun k hk => HAP.out k (by unfold mine at hk ⊢; rwa [hv1] at hk)⟩ hkV
      unfold entV at hy
      dsimp only at hy
      have HL1 : Hid (A'.length < gk) := Lib.hid (by
        have h1 := hp1.length_eq
        have h2 := HLN.out
        simp only [List.length_cons] at h2
        omega)
      have hbx := BoxI.new w1 a1 a2 a3 a4 a5 a6
      rw [hV] at hbx
      obtain ⟨m0, m1, m2, m3, m4, m5, _, _, _, _, _, _⟩ := hbx.cells
      unfold topV entV
      clear cP hp1 hh1 ho1 hk1 hv1 hkV
      gi_wp2_with fail
      refine hR.mono ?_
      rintro e W3 (⟨rfl, hJ3⟩ | ⟨rfl, hx3⟩)
      · have HJ3 := Lib.hid hJ3
        clear hJ3
        gi_wp2
        gi_roundg A'.length
        case rel => exact ⟨(v', A'), Nat.le_refl _, HJ3.out⟩
        case measure => exact HL1.out
      · have HX3 := Lib.hid hx3
        clear hx3
        gi_wp2
        refine bodyPost_ret (results_none rfl _ _ _) rfl ?_
        exact ⟨⟨_, rfl⟩, .inr HX3.out⟩
def seqV (N : Nat) : Value := .func (.func 99) #[] #[.pointer (some ⟨N, 0, none⟩)]
set_option maxRecDepth 100000 in
theorem drain_any (K : Nat) (w : World) : Calls Tryz.prog 79 #[.pointer (some ⟨K, 0, none⟩)] w fun e w' => e = .returned (seqV w.heap.size) ∧ w' = w.alloc (.cells #[.pointer (some ⟨K, 0, none⟩)] 108) := by
  go_enter Tryz.func79, Tryz.ntmps79
  go_wp2
  go_ret
  exact ⟨rfl, rfl⟩
set_option maxRecDepth 100000 in
theorem Tryz.isSeq (g : Nat) (lb : Array Value) (w : World) : (binOp BinOp.eql 150 (Value.func (Fn.func g) #[] lb) Value.nilFunc).run Tryz.prog w = .ok (.bool false) w := by kernel_rfl
end Go.Proofs.YtnmacalbbmeedaaGreat
