/- Texts in one: LateK. -/
import Derived.Deep.RegionHeld3
/- A region that draws its order, with what is held till the late operations (the stores behind all loads) come up: what is held needs not be held behind these. -/
namespace Go.Proofs.YtnmacalbbmeedaaGreat
open Go
section
variable {P : Program} {ops : Array Oper} {Q : Exit → Act → World → Prop} {md : Region.Mode} {S : World → Prop} {late : List Nat}
/-- Whatever order is picked from here on; S holds behind every operation that isn't late. -/
def AnyK (P : Program) (md : Region.Mode) (ops : Array Oper) (Q : Exit → Act → World → Prop) (S : World → Prop) (late : List Nat) : Nat → Array Bool → Act → World → Prop
  | 0, l, a, w => Region.ready md ops l = [] ∧ Q .normal a w
  | n + 1, l, a, w => (Region.ready md ops l = [] → Q .normal a w) ∧
    ∀ i ∈ Region.ready md ops l, wpOp P ops Q i (fun a' w' => (late.contains i = false → S w') ∧ AnyK P md ops Q S late n (l.setIfInBounds i true) a' w') a w
set_option maxRecDepth 100000 in
theorem any_of_K : ∀ (n : Nat) (l : Array Bool) (a : Act) (w : World), AnyK P md ops Q S late n l a w → wpAny P md ops Q n l a w
  | 0, _, _, _, h => h
  | n + 1, _, _, _, h => ⟨h.1, fun i hi => wpOp_mono (fun a' w' h' => any_of_K n _ a' w' h'.2) (h.2 i hi)⟩
/-- What waits for 'i', at one remove or at many. -/
def behind (md : Region.Mode) (ops : Array Oper) (i : Nat) : Nat → List Nat
  | 0 => []
  | n + 1 => let B := behind md ops i n
    (List.range ops.size).filter fun j => ((ops[j]?).map (fun o => o.after.any fun e => Region.binds md e && (e.on == i || B.contains e.on))).getD false
/-- All late operations that have not come up wait for 'i'. -/
def waits (md : Region.Mode) (ops : Array Oper) (late : List Nat) (l : Array Bool) (i : Nat) (B : List Nat) : Bool :=
  B.all (fun j => !l.getD j true && ((ops[j]?).map (fun o => o.after.any fun e => Region.binds md e && (e.on == i || B.contains e.on))).getD false) &&
  late.all fun j => l.getD j true || B.contains j
set_option maxRecDepth 100000 in
theorem K_first {i : Nat} {oi : Oper} {v : Value} (hi : ops[i]? = some oi) (hsel : ∀ (j : Nat) (o : Oper) cs b, ops[j]? = some o → o.op ≠ .select cs b)
    (hQ : ∀ c a w, Q (.panic c) (a.put oi.dst v) w → Q (.panic c) a w) (B : List Nat)
    (hB : ∀ j ∈ B, ∃ oj, ops[j]? = some oj ∧ ∃ e ∈ oj.after, Region.binds md e = true ∧ (e.on = i ∨ e.on ∈ B)) :
    ∀ (n : Nat) (l : Array Bool) (a : Act) (w : World),
      (∀ j ∈ B, l.getD j true = false) → (∀ j, late.contains j = true → l.getD j true = false → j ∈ B) →
      (∀ j oj, ops[j]? = some oj → j ≠ i → l.getD j true = false → (∀ e ∈ oj.after, Region.binds md e = true → e.on ≠ i) → oi.apart ops oj = true) →
      i ∈ Region.ready md ops l → YieldsIf P ops S oi v a → S w →
      AnyK P md ops Q S late n (l.setIfInBounds i true) (a.put oi.dst v) w → AnyK P md ops Q S late (n + 1) l a w := by
  have off : ∀ (l : Array Bool) (k : Nat), l.getD k true = false → l.getD k false = true → False := fun l k h0 h1 => by
    rcases Nat.lt_or_ge k l.size with h' | h'
    · simp [h'] at h0 h1; rw [h0] at h1; cases h1
    · simp [Array.getElem?_eq_none h'] at h1
  intro n
  induction n with
  | zero =>
    intro l a w _ _ _ hr hy hS H
    refine ⟨fun h => (by rw [h] at hr; cases hr), fun j hj => ?_⟩
    by_cases hji : j = i
    · subst hji; exact hy.wpOp hi hS ⟨fun _ => hS, H⟩
    · have := ready_mono hj hji
      rw [H.1] at this
      cases this
  | succ n ih =>
    intro l a w hU hL hfree hr hy hS H
    refine ⟨fun h => (by rw [h] at hr; cases hr), fun j hj => ?_⟩
    by_cases hji : j = i
    · subst hji; exact hy.wpOp hi hS ⟨fun _ => hS, H⟩
    · have h1 := H.2 j (ready_mono hj hji)
      obtain ⟨hjun, oj, hoj, hall⟩ := mem_ready.1 hj
      have hi0 := (mem_ready.1 hr).1
      have hnot : ∀ e ∈ oj.after, Region.binds md e = true → e.on ≠ i := fun e he hb heq => off l i hi0 (heq ▸ hall e he hb)
      have hjB : j ∉ B := fun hm => by
        obtain ⟨oj', ho', e, he, hb, hon⟩ := hB j hm
        rw [hoj] at ho'
        cases ho'
        rcases hon with hon | hon
        · exact hnot e he hb hon
        · exact off l e.on (hU _ hon) (hall e he hb)
      have hjl : late.contains j = false := by
        cases h : late.contains j with
        | false => rfl
        | true => exact absurd (hL j h hjun) hjB
      have h2 := wpOp_putIf hoj (hfree j oj hoj hji hjun hnot) (fun cs b => hsel i oi cs b hi) (fun cs b => hsel j oj cs b hoj) hQ hy h1
      have un : ∀ k, (l.setIfInBounds j true).getD k true = false → k ≠ j ∧ l.getD k true = false ∨ k = j ∧ l.getD k true = false := fun k hk => by
        by_cases hjk : j = k
        · exact .inr ⟨hjk.symm, hjk ▸ hjun⟩
        · rw [getD_set_ne true hjk] at hk; exact .inl ⟨Ne.symm hjk, hk⟩
      have hU' : ∀ k ∈ B, (l.setIfInBounds j true).getD k true = false := fun k hk => by
        have hne : j ≠ k := fun e => by subst e; exact hjB hk
        rw [getD_set_ne true hne]; exact hU k hk
      have hL' : ∀ k, late.contains k = true → (l.setIfInBounds j true).getD k true = false → k ∈ B := fun k hk hu => hL k hk (by rcases un k hu with h | h <;> exact h.2)
      have hfree' : ∀ k ok, ops[k]? = some ok → k ≠ i → (l.setIfInBounds j true).getD k true = false →
          (∀ e ∈ ok.after, Region.binds md e = true → e.on ≠ i) → oi.apart ops ok = true := fun k ok hk hki hun hno =>
        hfree k ok hk hki (by rcases un k hun with h | h <;> exact h.2) hno
      refine wpOp_mono (fun a' w' h3 => ⟨h3.2.1, ih (l.setIfInBounds j true) a' w' hU' hL' hfree' (ready_mono hr (Ne.symm hji)) h3.1 (h3.2.1 hjl) ?_⟩) h2
      rw [Array.setIfInBounds_comm _ _ hji]
      exact h3.2.2
set_option maxRecDepth 100000 in
theorem K_take {i : Nat} {oi : Oper} {v : Value} {n : Nat} {l : Array Bool} {a : Act} {w : World} (hi : ops[i]? = some oi)
    (hs : Region.noSelect ops = true) (hf : Region.free md ops l i = true) (hr : (Region.ready md ops l).contains i = true)
    (hb : waits md ops late l i (behind md ops i ops.size) = true)
    (hQ : ∀ c a w, Q (.panic c) (a.put oi.dst v) w → Q (.panic c) a w) (hy : YieldsIf P ops S oi v a) (hS : S w)
    (h : AnyK P md ops Q S late n (l.setIfInBounds i true) (a.put oi.dst v) w) : AnyK P md ops Q S late (n + 1) l a w := by
  generalize behind md ops i ops.size = B at hb
  simp only [waits, Bool.and_eq_true, List.all_eq_true, Bool.not_eq_true', Bool.or_eq_true] at hb
  obtain ⟨hb1, hb2⟩ := hb
  refine K_first hi (Region.noSelect_spec hs) hQ B (fun j hj => ?_) n l a w (fun j hj => (hb1 j hj).1) (fun j hj hu => ?_) (Region.free_spec hi hf) (by simpa using hr) hy hS h
  · have h2 := (hb1 j hj).2
    cases ho : ops[j]? with
    | none => rw [ho] at h2; cases h2
    | some oj =>
      rw [ho] at h2
      simp only [Option.map_some, Option.getD_some] at h2
      obtain ⟨x, hx, h3⟩ := Array.any_eq_true.1 h2
      simp only [Bool.and_eq_true, Bool.or_eq_true, beq_iff_eq, List.contains_iff_mem] at h3
      exact ⟨oj, rfl, oj.after[x], Array.getElem_mem hx, h3.1, h3.2⟩
  · rcases hb2 j (by simpa using hj) with h2 | h2
    · rw [hu] at h2; cases h2
    · simpa using h2
/-- Each of 'rs' comes up next. -/
def AllK (P : Program) (md : Region.Mode) (ops : Array Oper) (Q : Exit → Act → World → Prop) (S : World → Prop) (late : List Nat) (n : Nat) (l : Array Bool) (a : Act) (w : World) (rs : List Nat) : Prop :=
  ∀ i ∈ rs, wpOp P ops Q i (fun a' w' => (late.contains i = false → S w') ∧ AnyK P md ops Q S late n (l.setIfInBounds i true) a' w') a w
set_option maxRecDepth 100000 in
theorem AllK.nil {n : Nat} {l : Array Bool} {a : Act} {w : World} : AllK P md ops Q S late n l a w [] := fun _ h => by cases h
set_option maxRecDepth 100000 in
theorem AllK.cons {n : Nat} {l : Array Bool} {a : Act} {w : World} {i : Nat} {o : Oper} {rs : List Nat} (ho : ops[i]? = some o)
    (h : ∀ K' : Act → World → Prop, Shut (∀ a w, (late.contains i = false → S w) → AnyK P md ops Q S late n (l.setIfInBounds i true) a w → K' a w) → if Region.wanted o (yielded ops a.tmps) = true then Oper.wp P o a w K' Q else K' (a.put o.dst undef) w)
    (hs : AllK P md ops Q S late n l a w rs) : AllK P md ops Q S late n l a w (i :: rs) := fun j hj => by
  rcases List.mem_cons.1 hj with rfl | hj
  · exact wpOp_step ho (fun K' hK => h K' (fun a w hS hW => hK a w ⟨hS, hW⟩))
  · exact hs j hj
set_option maxRecDepth 100000 in
theorem K_ready {rs : List Nat} {n : Nat} {l : Array Bool} {a : Act} {w : World} (hr : Region.ready md ops l = rs) (hne : rs ≠ [])
    (h : AllK P md ops Q S late n l a w rs) : AnyK P md ops Q S late (n + 1) l a w := ⟨fun h0 => absurd (hr ▸ h0) hne, hr ▸ h⟩
set_option maxRecDepth 100000 in
theorem K_done {l : Array Bool} {a : Act} {w : World} (hr : Region.ready md ops l = []) (h : Q .normal a w) : ∀ n, AnyK P md ops Q S late n l a w
  | 0 => ⟨hr, h⟩
  | _ + 1 => ⟨fun _ => h, by rw [hr]; simp⟩
set_option maxRecDepth 100000 in
theorem region_K (late : List Nat) {id : Nat} {a : Act} {w : World} (hm : P.follows .mixedOrders = true)
    (h : AnyK P .any ops Q S late ops.size (Array.replicate ops.size false) a w.drew) : (Code.region id ops true).wp P Q a w :=
  wp_region_any hm (any_of_K _ _ _ _ h)
end
section
variable {P : Program} {ops : Array Oper} {Q : Exit → Act → World → Prop} {md : Region.Mode} {S : World → Prop} {late : List Nat}
set_option maxRecDepth 100000 in
theorem at_list {i : Nat} {o : Oper} (h : ops.toList[i]? = some o) : ops[i]? = some o := by rw [← h]; simp
set_option maxRecDepth 100000 in
/-- The same, the operation found in the list. -/
theorem K_at {i : Nat} {oi : Oper} {v : Value} {n : Nat} {l : Array Bool} {a : Act} {w : World} (hi : ops.toList[i]? = some oi)
    (hs : Region.noSelect ops = true) (hf : Region.free md ops l i = true) (hr : (Region.ready md ops l).contains i = true)
    (hb : waits md ops late l i (behind md ops i ops.size) = true)
    (hQ : ∀ c a w, Q (.panic c) (a.put oi.dst v) w → Q (.panic c) a w) (hy : YieldsIf P ops S oi v a) (hS : S w)
    (h : AnyK P md ops Q S late n (l.setIfInBounds i true) (a.put oi.dst v) w) : AnyK P md ops Q S late (n + 1) l a w := K_take (at_list hi) hs hf hr hb hQ hy hS h
set_option maxRecDepth 100000 in
theorem AllK.at {n : Nat} {l : Array Bool} {a : Act} {w : World} {i : Nat} {o : Oper} {rs : List Nat} (ho : ops.toList[i]? = some o)
    (h : ∀ K' : Act → World → Prop, Shut (∀ a w, (late.contains i = false → S w) → AnyK P md ops Q S late n (l.setIfInBounds i true) a w → K' a w) → if Region.wanted o (yielded ops a.tmps) = true then Oper.wp P o a w K' Q else K' (a.put o.dst undef) w)
    (hs : AllK P md ops Q S late n l a w rs) : AllK P md ops Q S late n l a w (i :: rs) := AllK.cons (at_list ho) h hs
set_option maxRecDepth 100000 in
/-- An operation that yields in whatever world may be taken first, if it is counted among the late ones. -/
theorem K_pure {i : Nat} {oi : Oper} {v : Value} (hi : ops.toList[i]? = some oi) (hlate : late.contains i = true) (hs : Region.noSelect ops = true)
    (hQ : ∀ c a w, Q (.panic c) (a.put oi.dst v) w → Q (.panic c) a w) :
    ∀ {n : Nat} {l : Array Bool} {a : Act} {w : World}, Region.free md ops l i = true → (Region.ready md ops l).contains i = true → YieldsIf P ops (fun _ => True) oi v a →
      AnyK P md ops Q S late n (l.setIfInBounds i true) (a.put oi.dst v) w → AnyK P md ops Q S late (n + 1) l a w := by
  have hi' := at_list hi
  have hsel := Region.noSelect_spec hs
  have off : ∀ (l : Array Bool) (k : Nat), l.getD k true = false → l.getD k false = true → False := fun l k h0 h1 => by
    rcases Nat.lt_or_ge k l.size with h' | h'
    · simp [h'] at h0 h1; rw [h0] at h1; cases h1
    · simp [Array.getElem?_eq_none h'] at h1
  intro n l a w hf hr hy H
  have hr' : i ∈ Region.ready md ops l := by simpa using hr
  have hfree := Region.free_spec hi' hf
  clear hr hf
  induction n generalizing l a w with
  | zero =>
    refine ⟨fun h => (by rw [h] at hr'; cases hr'), fun j hj => ?_⟩
    by_cases hji : j = i
    · subst hji; exact hy.wpOp hi' trivial ⟨fun h => (by rw [hlate] at h; cases h), H⟩
    · have := ready_mono hj hji
      rw [H.1] at this
      cases this
  | succ n ih =>
    refine ⟨fun h => (by rw [h] at hr'; cases hr'), fun j hj => ?_⟩
    by_cases hji : j = i
    · subst hji; exact hy.wpOp hi' trivial ⟨fun h => (by rw [hlate] at h; cases h), H⟩
    · have h1 := H.2 j (ready_mono hj hji)
      obtain ⟨hjun, oj, hoj, hall⟩ := mem_ready.1 hj
      have hi0 := (mem_ready.1 hr').1
      have hnot : ∀ e ∈ oj.after, Region.binds md e = true → e.on ≠ i := fun e he hb heq => off l i hi0 (heq ▸ hall e he hb)
      have h2 := wpOp_putIf hoj (hfree j oj hoj hji hjun hnot) (fun cs b => hsel i oi cs b hi') (fun cs b => hsel j oj cs b hoj) hQ hy h1
      have un : ∀ k, (l.setIfInBounds j true).getD k true = false → l.getD k true = false := fun k hk => by
        by_cases hjk : j = k
        · exact hjk ▸ hjun
        · rwa [getD_set_ne true hjk] at hk
      refine wpOp_mono (fun a' w' h3 => ⟨h3.2.1, ih h3.1 ?_ (ready_mono hr' (Ne.symm hji)) (fun k ok hk hki hun hno => hfree k ok hk hki (un k hun) hno)⟩) h2
      rw [Array.setIfInBounds_comm _ _ hji]
      exact h3.2.2
set_option maxRecDepth 100000 in
/-- One alone may come up. -/
theorem K_only {n : Nat} {l : Array Bool} {a : Act} {w : World} (i : Nat) {o : Oper} (hr : Region.ready md ops l = [i]) (ho : ops.toList[i]? = some o)
    (h : ∀ K' : Act → World → Prop, Shut (∀ a w, (late.contains i = false → S w) → AnyK P md ops Q S late n (l.setIfInBounds i true) a w → K' a w) → if Region.wanted o (yielded ops a.tmps) = true then Oper.wp P o a w K' Q else K' (a.put o.dst undef) w) : AnyK P md ops Q S late (n + 1) l a w :=
  K_ready hr (by simp) (AllK.at ho h AllK.nil)
set_option maxRecDepth 100000 in
/-- One of two. -/
theorem K_two {n : Nat} {l : Array Bool} {a : Act} {w : World} (i j : Nat) {o p : Oper} (hr : Region.ready md ops l = [i, j]) (ho : ops.toList[i]? = some o) (hp : ops.toList[j]? = some p)
    (h : ∀ K' : Act → World → Prop, Shut (∀ a w, (late.contains i = false → S w) → AnyK P md ops Q S late n (l.setIfInBounds i true) a w → K' a w) → if Region.wanted o (yielded ops a.tmps) = true then Oper.wp P o a w K' Q else K' (a.put o.dst undef) w)
    (k : ∀ K' : Act → World → Prop, Shut (∀ a w, (late.contains j = false → S w) → AnyK P md ops Q S late n (l.setIfInBounds j true) a w → K' a w) → if Region.wanted p (yielded ops a.tmps) = true then Oper.wp P p a w K' Q else K' (a.put p.dst undef) w) : AnyK P md ops Q S late (n + 1) l a w :=
  K_ready hr (by simp) (AllK.at ho h (AllK.at hp k AllK.nil))
end
end Go.Proofs.YtnmacalbbmeedaaGreat
