/- A map of pairs that holds values as they are. -/
import Derived.Test.YtejcemmhhpbchaaGreatMapP
namespace Go.Proofs.YtejcemmhhpbchaaGreat
open Go.RowKit Go.Maps

def rawR (v : Value) : Option (DataW Value × List MemPlace) := some (.held v, [])
def nilV : Value := .slice none 0 0
/-- A function turned at one pair. -/
def upd {β : Type} (f : Int × Int → β) (p : Int × Int) (x : β) : Int × Int → β := fun q => if q = p then x else f q
set_option maxRecDepth 100000 in
theorem upd_same {β : Type} (f : Int × Int → β) (p : Int × Int) (x : β) : upd f p x p = x := if_pos rfl
set_option maxRecDepth 100000 in
theorem upd_other {β : Type} (f : Int × Int → β) (p : Int × Int) (x : β) {q : Int × Int} (h : q ≠ p) : upd f p x q = f q := if_neg h
set_option maxRecDepth 100000 in
theorem vzero (w : World) : (zeroValue 43).run Tryz.prog w = .ok (.slice none 0 0) w := by kernel_rfl
/-- Block b is a map that tells V p at each pair p. N: how often it was written at most. -/
def VMap (w : World) (b N : Nat) (V : Int × Int → Value) : Prop :=
  ∃ D : DataW Value, w.ownsMap Tryz.prog 37 rawR b N D ∧ ∀ p, FitsPr p → D.atKey (pk p) (.held nilV) = .held (V p)
set_option maxRecDepth 100000 in
theorem vmap_made (w : World) : VMap (w.alloc (.map #[] 0)) w.heap.size 0 (fun _ => nilV) := ⟨.map [], World.ownsMap_made w Tryz.prog 37 _, fun _ _ => rfl⟩
set_option maxRecDepth 100000 in
theorem VMap.kept {w w' : World} {b N : Nat} {V : Int × Int → Value} (h : VMap w b N V) (hk : w'.heap[b]? = w.heap[b]?) : VMap w' b N V := by
  obtain ⟨D, ⟨es, clock, hb, rest⟩, h1⟩ := h
  exact ⟨D, ⟨es, clock, hk.trans hb, rest⟩, h1⟩
set_option maxRecDepth 100000 in
theorem VMap.lt {w : World} {b N : Nat} {V : Int × Int → Value} (h : VMap w b N V) : b < w.heap.size := by
  obtain ⟨D, h0, _⟩ := h
  exact World.ownsMap.lt h0
set_option maxRecDepth 100000 in
theorem VMap.block {w : World} {b N : Nat} {V : Int × Int → Value} (h : VMap w b N V) : ∃ es clock, w.heap[b]? = some (.map es clock) := by
  obtain ⟨D, ⟨es, clock, hb, _⟩, _⟩ := h
  exact ⟨es, clock, hb⟩
set_option maxRecDepth 100000 in
theorem VMap.mono {w : World} {b N N' : Nat} {V : Int × Int → Value} (h : VMap w b N V) (hN : N ≤ N') : VMap w b N' V := by
  obtain ⟨D, h0, h1⟩ := h
  exact ⟨D, World.ownsMap.mono h0 hN, h1⟩
set_option maxRecDepth 100000 in
theorem vlook {w : World} {b N : Nat} {V : Int × Int → Value} (h : VMap w b N V) {p : Int × Int} (hp : FitsPr p) : (Instr.lookup 65 (.map (some b)) (pv p) false).run Tryz.prog w = .ok (V p) w := by
  obtain ⟨D, ho, hr⟩ := h
  obtain ⟨v, ps, hrun, hv⟩ := World.ownsMap.lookup ho lawP Tryz.underlying65 (vzero w) (zd := .held nilV) (zp := []) rfl (key_pair hp)
  rw [hr p hp] at hv
  unfold rawR at hv
  simp only [Option.some.injEq, Prod.mk.injEq, DataW.held.injEq] at hv
  rw [hrun, hv.1]
set_option maxRecDepth 100000 in
theorem vput {w : World} {b N : Nat} {V : Int × Int → Value} (h : VMap w b N V) {p : Int × Int} (hp : FitsPr p) (hN : N ≤ 1000000000000) (u : Value) :
    ∃ w', (Instr.mapUpdate 65 (.map (some b)) (pv p) u).run Tryz.prog w = .ok () w' ∧ VMap w' b (N + 1) (upd V p u) ∧ w.mapTurned w' b := by
  obtain ⟨D, ho, hr⟩ := h
  obtain ⟨w', h1, h2, h3⟩ := ho.store lawP Tryz.underlying65 (by unfold maxLen; omega) (key_pair hp) (d := .held u) (ps := []) rfl
  refine ⟨w', h1, ⟨_, h2, fun q hq => ?_⟩, h3⟩
  by_cases e : q = p
  · subst e; rw [upd_same, atKey_put_same ho.isMap (pk_key _)]
  · rw [upd_other _ _ _ e, atKey_put_other fun k => e (pk_inj hq hp k)]; exact hr q hq
set_option maxRecDepth 100000 in
theorem vdrop {w : World} {b N : Nat} {V : Int × Int → Value} (h : VMap w b N V) {p : Int × Int} (hp : FitsPr p) :
    ∃ w', (∀ ty, (Builtin.delete_ #[65, 37] ty #[.map (some b), pv p]).run Tryz.prog w = .ok (.tuple #[]) w') ∧ VMap w' b N (upd V p nilV) ∧ w.mapTurned w' b := by
  obtain ⟨D, ho, hr⟩ := h
  obtain ⟨w', r1, r2, r3⟩ := ho.drop lawP Tryz.underlying65 (key_pair hp) 0
  refine ⟨w', fun ty => by rw [← r1]; rfl, ⟨_, r2, fun q hq => ?_⟩, r3⟩
  by_cases e : q = p
  · subst e; rw [upd_same, atKey_del_same]
  · rw [upd_other _ _ _ e, atKey_del_other fun k => e (pk_inj hq hp k)]; exact hr q hq
end Go.Proofs.YtejcemmhhpbchaaGreat
