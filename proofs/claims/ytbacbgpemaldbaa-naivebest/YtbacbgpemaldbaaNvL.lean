/- What is learnt of a table, as plain lists; rows of rows of texts of the call's own. -/
import Derived.Test.YtbacbgpemaldbaaNvW
import Derived.Test.YtbacbgpemaldbaaRefCheck
namespace Go.Proofs.Ytbacbgpemaldbaa
open Go.RowKit

/-- A table's words, each as its bytes. -/
def startW (L : Bag) : List (List ByteArray) := L.map fun p => bytesT p.1
set_option maxRecDepth 100000 in
theorem startW_len (L : Bag) : (startW L).length = L.length := by simp [startW]
set_option maxRecDepth 100000 in
theorem start_one (L : Bag) : ∀ w ∈ startW L, ∀ t ∈ w, t.size = 1 := by
  intro w hw t ht
  obtain ⟨p, _, rfl⟩ := List.mem_map.1 hw
  exact bytesT_one _ t ht
set_option maxRecDepth 100000 in
theorem start_all (L : Bag) : allT (startW L) = bytesOf L := by
  unfold allT startW bytesOf
  rw [List.map_map]
  congr 1
  apply List.map_congr_left
  intro p _
  exact bytesT_len p.1
def wtN : Bag → Int
  | [] => 0
  | p :: L => p.2 * ((p.1.size - 1 : Nat) : Int) + wtN L
set_option maxRecDepth 100000 in
theorem nv_check_each : ∀ (L : Bag) (k : Nat) (o : Option (ByteArray × Int)), checkFrom k o L = none → ∀ p ∈ L, wrongW p.1 p.2 = 0
  | [], _, _, _, p, hp => by simp at hp
  | q :: r, k, o, h, p, hp => by
    rw [checkFrom] at h
    split at h
    · rename_i h0
      rcases List.mem_cons.1 hp with rfl | hp
      · unfold wrongBy at h0
        split at h0
        · rename_i h1; exact h1
        · exact h0
      · exact nv_check_each r _ _ h p hp
    · cases h
set_option maxRecDepth 100000 in
theorem nv_dot : ∀ (L : Bag) (t r : Int), dotFrom t (countsOf L) (roomsOf L) = (r, true) → r = t + wtN L ∧ (t ≤ 9223372036854775807 → r ≤ 9223372036854775807)
  | [], t, r, h => by
    have e : (t, true) = (r, true) := h
    simp only [Prod.mk.injEq, and_true] at e
    subst e
    simp [wtN]
  | p :: L, t, r, h => by
    have e : dotFrom t (countsOf (p :: L)) (roomsOf (p :: L)) = bif (mulOf p.2 (roomOf p.1)).2 then (bif (addOf t (mulOf p.2 (roomOf p.1)).1).2 then dotFrom (addOf t (mulOf p.2 (roomOf p.1)).1).1 (countsOf L) (roomsOf L) else (0, false)) else (0, false) := rfl
    rw [e] at h
    have e1 : wtN (p :: L) = p.2 * ((p.1.size - 1 : Nat) : Int) + wtN L := rfl
    rw [e1]
    unfold mulOf at h
    split at h
    · simp only [cond_true] at h
      unfold addOf at h
      split at h
      · rename_i h2
        simp only [cond_true] at h
        obtain ⟨a, b⟩ := nv_dot L _ r h
        unfold roomOf at a h2
        exact ⟨by omega, fun _ => b h2.2.2⟩
      · simp only [cond_false, Prod.mk.injEq] at h
        exact absurd h.2 (by decide)
    · simp only [cond_false, Prod.mk.injEq] at h
      exact absurd h.2 (by decide)
set_option maxRecDepth 100000 in
theorem cap_wt : ∀ L : Bag, (∀ p ∈ L, 1 ≤ p.2) → capW (startW L) (countsOf L) = wtN L
  | [], _ => rfl
  | p :: L, h => by
    have ih := cap_wt L fun q hq => h q (List.mem_cons_of_mem _ hq)
    have h1 := h p List.mem_cons_self
    have e : capW (startW (p :: L)) (countsOf (p :: L)) = (if 1 ≤ p.2 then (((bytesT p.1).length - 1 : Nat) : Int) * p.2 else 0) + capW (startW L) (countsOf L) := rfl
    rw [e, if_pos h1, ih, bytesT_len, Int.mul_comm]
    rfl
set_option maxRecDepth 100000 in
/-- What may come of a right table stays within. -/
theorem right_cap {L : Bag} (h : (checkOf L).2 = 0) : capW (startW L) (countsOf L) ≤ 9223372036854775807 := by
  unfold checkOf at h
  split at h
  · rename_i k e he
    simp only at h
    subst h
    have : ∀ (L : Bag) (k : Nat) (o : Option (ByteArray × Int)) (j : Nat), checkFrom k o L ≠ some (j, 0) := by
      intro L
      induction L with
      | nil => intro k o j h; cases h
      | cons p r ih =>
        intro k o j h
        rw [checkFrom] at h
        split at h
        · exact ih _ _ _ h
        · rename_i h0
          simp only [Option.some.injEq, Prod.mk.injEq] at h
          exact h0 h.2
    exact absurd he (this _ _ _ _)
  · rename_i he
    have hw := nv_check_each _ _ _ he
    have hc : ∀ p ∈ L, 1 ≤ p.2 := fun p hp => by
      have h1 := hw p hp
      unfold wrongW at h1
      split at h1
      · cases h1
      · omega
    cases hd : weighOf L with
    | mk r f =>
      rw [hd] at h
      cases f with
      | true =>
        rw [cap_wt L hc]
        have h2 := nv_dot L 0 r hd
        have := h2.2 (by decide)
        omega
      | false => simp at h
/-! Behind merges. -/
set_option maxRecDepth 100000 in
theorem cap_join (m : Mg) : ∀ (W : List (List ByteArray)) (C : List Int), capW (W.map (joinT m)) C ≤ capW W C
  | [], _ => by simp [capW]
  | _ :: _, [] => by simp [capW]
  | w :: R, c :: C => by
    have ih := cap_join m R C
    have hl := join_len m w
    rw [List.map_cons, capW_cons, capW_cons]
    split
    · have : (((joinT m w).length - 1 : Nat) : Int) * c ≤ ((w.length - 1 : Nat) : Int) * c := Int.mul_le_mul_of_nonneg_right (by omega) (by omega)
      omega
    · omega
set_option maxRecDepth 100000 in
theorem cap_run (ms : List Mg) : ∀ (W : List (List ByteArray)) (C : List Int), capW (runT W ms) C ≤ capW W C := by
  induction ms with
  | nil => intro W C; exact Int.le_refl _
  | cons m r ih => intro W C; exact Int.le_trans (ih _ _) (cap_join m W C)
set_option maxRecDepth 100000 in
theorem all_run (ms : List Mg) : ∀ W : List (List ByteArray), allT (runT W ms) ≤ allT W := by
  induction ms with
  | nil => intro W; exact Nat.le_refl _
  | cons m r ih => intro W; exact Nat.le_trans (ih _) (all_join_le m W)
set_option maxRecDepth 100000 in
theorem runT_len (ms : List Mg) (W : List (List ByteArray)) : (runT W ms).length = W.length := by rw [runT_map, List.length_map]
set_option maxRecDepth 100000 in
theorem size_spell {t : ByteArray} : ∀ {W : List ByteArray}, t ∈ W → t.size ≤ (spellT W).length
  | w :: r, h => by
    have e : spellT (w :: r) = bs w ++ spellT r := rfl
    rw [e, List.length_append]
    rcases List.mem_cons.1 h with rfl | h
    · rw [bs_size]; omega
    · have := size_spell h; omega
set_option maxRecDepth 100000 in
theorem spell_bytes (s : ByteArray) : (spellT (bytesT s)).length = s.size := by
  have : ∀ l : List UInt8, (spellT (l.map fun b => (⟨#[b]⟩ : ByteArray))).length = l.length := by
    intro l
    induction l with
    | nil => rfl
    | cons b r ih =>
      have e : spellT ((b :: r).map fun b => (⟨#[b]⟩ : ByteArray)) = bs ⟨#[b]⟩ ++ spellT (r.map fun b => (⟨#[b]⟩ : ByteArray)) := rfl
      rw [e, List.length_append, ih, bs_size]
      simp [ByteArray.size]; omega
  unfold bytesT
  rw [this, bs_size]
set_option maxRecDepth 100000 in
/-- Each text behind merges is a part of a word. -/
theorem run_small {L : Bag} {n : Nat} (h : bytesOf L ≤ n) (ms : List Mg) : ∀ W ∈ runT (startW L) ms, ∀ t ∈ W, t.size ≤ n := by
  intro W hW t ht
  rw [runT_map] at hW
  obtain ⟨v, hv, rfl⟩ := List.mem_map.1 hW
  obtain ⟨p, hp, rfl⟩ := List.mem_map.1 hv
  have h1 := size_spell ht
  rw [run_spell, spell_bytes] at h1
  have h2 : p.1.size ≤ bytesOf L := by
    have h3 : ∀ M : Bag, p ∈ M → p.1.size ≤ bytesOf M := by
      intro M
      induction M with
      | nil => intro h; simp at h
      | cons q r ih =>
        intro h
        have e : bytesOf (q :: r) = q.1.size + bytesOf r := by simp [bytesOf]
        rw [e]
        rcases List.mem_cons.1 h with h | h
        · rw [h]; omega
        · have := ih h; omega
    exact h3 L hp
  omega
/-! Rows of rows of the call's own. -/
/-- The rows WW lie in v, each of the call's own from base on. -/
def rowsO (w : World) (base : Nat) (v : Value) (WW : List (List ByteArray)) : Prop := ∃ E : List Hs, E.length = WW.length ∧ ownE slTE w base v E ∧ ∀ i (h : i < E.length) (h' : i < WW.length), ownE textE w base (hsV E[i]) WW[i]
set_option maxRecDepth 100000 in
theorem rowsO.reads {w : World} {base : Nat} {v : Value} {WW : List (List ByteArray)} (h : rowsO w base v WW) : rowsT w v WW := by
  obtain ⟨E, h1, h2, h3⟩ := h
  exact ⟨E, h1, h2.reads, fun i a b => ⟨(h3 i a b).reads, (h3 i a b).nilNone⟩⟩
set_option maxRecDepth 100000 in
theorem rowsO.below {w w' : World} {base : Nat} {v : Value} {WW : List (List ByteArray)} (h : rowsO w base v WW) (hb : Below w.heap.size w w') : rowsO w' base v WW := by
  obtain ⟨E, h1, h2, h3⟩ := h
  exact ⟨E, h1, h2.below hb, fun i a b => (h3 i a b).below hb⟩
set_option maxRecDepth 100000 in
theorem rowsO.nil (w : World) (b : Nat) : rowsO w b (.slice none 0 0) [] := ⟨[], rfl, ownE.nil _ _, fun i h => by simp at h⟩
set_option maxRecDepth 100000 in
theorem rowsO.form {w : World} {base : Nat} {v : Value} {WW : List (List ByteArray)} (h : rowsO w base v WW) : ∃ a cap, v = .slice a WW.length cap := h.reads.form
set_option maxRecDepth 100000 in
theorem own_types {α β : Type} {R : Elt α} {R2 : Elt β} {w : World} {b b2 : Nat} {v u : Value} {A : List α} {B : List β} (h : ownE R w b v A) (k : ownE R2 w b2 u B) (hne : R.ty ≠ R2.ty) : ∀ g, v.ownBlock = some g → u.ownBlock ≠ some g := fun g e1 e2 => by
  obtain ⟨c1, h1⟩ := h.block g e1
  obtain ⟨c2, h2⟩ := k.block g e2
  rw [h1] at h2
  exact hne (by injection h2 with h2; injection h2)
set_option maxRecDepth 100000 in
/-- Another row, of another type, grows. -/
theorem rowsO.grown {w w' : World} {base b2 : Nat} {v u : Value} {WW : List (List ByteArray)} {β : Type} {R2 : Elt β} {B : List β} (h : rowsO w base v WW) (k : ownE R2 w b2 u B) (h1 : slTE.ty ≠ R2.ty) (h2 : textE.ty ≠ R2.ty) (hg : w.grownBy w' u.ownBlock) : rowsO w' base v WW := by
  obtain ⟨E, e1, e2, e3⟩ := h
  exact ⟨E, e1, e2.kept fun g hgo => hg.block g (e2.lt g hgo).2 fun e => own_types e2 k h1 g hgo e.symm, fun i a b => (e3 i a b).kept fun g hgo => hg.block g ((e3 i a b).lt g hgo).2 fun e => own_types (e3 i a b) k h2 g hgo e.symm⟩
set_option maxRecDepth 100000 in
/-- One more row. -/
theorem rowsO.app {w w' : World} {base : Nat} {v r : Value} {WW : List (List ByteArray)} {E : List Hs} {e : Hs} {W : List ByteArray} (h1 : E.length = WW.length) (h2 : ownE slTE w base v E) (h3 : ∀ i (h : i < E.length) (h' : i < WW.length), ownE textE w base (hsV E[i]) WW[i]) (hr : ownE textE w base (hsV e) W)
    (ho : ownE slTE w' base r (E ++ [e])) (hg : w.grownBy w' v.ownBlock) : rowsO w' base r (WW ++ [W]) := by
  have kp : ∀ {x : Value} {A : List ByteArray}, ownE textE w base x A → ownE textE w' base x A := fun h => h.kept fun g hgo => hg.block g (h.lt g hgo).2 fun e => own_types h h2 (by decide) g hgo e.symm
  refine ⟨E ++ [e], by simp [h1], ho, fun i a b => ?_⟩
  by_cases hi : i < E.length
  · rw [List.getElem_append_left hi, List.getElem_append_left (show i < WW.length by omega)]
    exact kp (h3 i hi (by omega))
  · have : i = E.length := by simp at a; omega
    subst this
    rw [List.getElem_append_right (Nat.le_refl _), List.getElem_append_right (by omega)]
    simp only [Nat.sub_self, List.getElem_cons_zero, h1]
    exact kp hr
end Go.Proofs.Ytbacbgpemaldbaa
