/- LazyAll in plain words; how the laws begin. -/
import Derived.Test.YtbnekkcjkdghcaaLaC
namespace Go.Proofs.Ytbnekkcjkdghcaa
open Go.RowKit Go.Maps Go.Shelf
open Go.Sort (grow grow_empty grow_grow alloc_eq_grow heap_grow_old)

/-- What is known is what is live, and of each there is an entry. -/
structure LaQ (q : Qm) (L : Cn) : Prop where
  known : q.known = L
  has : ∀ z ∈ L, itemC z ∈ q.ents
set_option maxRecDepth 100000 in
theorem laq_put {q : Qm} {L : Cn} (h : LaQ q L) (p : Int × Int) {n : Int} (hn : 0 ≤ n) : LaQ (putQ q p n) (setC L p n) := by
  unfold putQ
  rw [h.known]
  by_cases h0 : n < 1
  · have e : n = 0 := by omega
    subst e
    rw [if_pos h0, set_zero]
    exact ⟨rfl, fun z hz => h.has z (del_mem.1 hz).1⟩
  · rw [if_neg h0, set_ins p (by omega)]
    cases manyQ (q.ents.length + 1) (insC p n L).length with
    | true => exact ⟨rfl, fun z hz => List.mem_map_of_mem hz⟩
    | false =>
      refine ⟨rfl, fun z hz => ?_⟩
      rw [cond_false]
      rcases ins_mem.1 hz with rfl | ⟨hz, _⟩
      · exact List.mem_append.2 (.inr (List.mem_singleton.2 rfl))
      · exact List.mem_append.2 (.inl (h.has z hz))
set_option maxRecDepth 100000 in
theorem laq_new : LaQ newQ [] := ⟨rfl, fun z hz => by simp at hz⟩
set_option maxRecDepth 100000 in
theorem putQ_pu (q : Qm) (p : Int × Int) (n : Int) : (putQ q p n).pu ≤ q.pu + 1 := by
  unfold putQ
  split
  · simp only; omega
  · cases manyQ (q.ents.length + 1) (insC p n q.known).length <;> simp
set_option maxRecDepth 100000 in
theorem popQ_pu (q : Qm) (o : Option Item) (l : List Item) (n : Nat) : (popQ q o l n).pu = q.pu := rfl
set_option maxRecDepth 100000 in
/-- What is live of an item of the list. -/
theorem live_item {L : Cn} (hL : RisC L) {z : (Int × Int) × Int} (hz : z ∈ L) : getC L (pairI (itemC z)) = (itemC z).2.2 := by
  obtain ⟨⟨a, b⟩, c⟩ := z
  exact get_mem hL hz
set_option maxRecDepth 100000 in
/-- One is taken. -/
theorem laq_pop {q : Qm} {L : Cn} {o : Option Item} {l : List Item} {n : Nat} (h : LaQ q L) (hs : SaneQ [] q) (hp : Pops [] (getC L) q.ents o l n) (hne : L ≠ []) :
    ∃ x, o = .some x ∧ FitsI x ∧ getC L (pairI x) = x.2.2 ∧ 1 ≤ x.2.2 ∧ LaQ (popQ q o l n) (delC L (pairI x)) ∧ (∃ z ∈ L, x = itemC z) ∧ (∀ z ∈ delC L (pairI x), betterOf [] x (itemC z) = true) ∧ (delC L (pairI x)).length + 1 = L.length := by
  have hL : RisC L := by rw [← h.known]; exact hs.ris
  cases o with
  | none =>
    obtain ⟨z, hz⟩ := List.exists_mem_of_ne_nil L hne
    exact absurd (live_item hL hz) ((hp.nothing rfl).2 _ (h.has z hz))
  | some x =>
    obtain ⟨h1, h2, h3, h4⟩ := hp.some x rfl
    obtain ⟨f1, f2, f3, f4⟩ := hs.ents x h1
    have hin : inC L (pairI x) = true := by
      cases e : inC L (pairI x) with
      | true => rfl
      | false => rw [get_out e] at h2; omega
    have hm := get_in hin
    rw [h2] at hm
    have hlen := len_del hL (pairI x)
    rw [hin] at hlen
    refine ⟨x, rfl, f1, h2, f4, ⟨?_, fun z hz => ?_⟩, ⟨(pairI x, x.2.2), hm, rfl⟩, fun z hz => ?_, by simpa using hlen⟩
    · show delC q.known (pairI x) = delC L (pairI x)
      rw [h.known]
    · obtain ⟨hz1, hz2⟩ := del_mem.1 hz
      rcases h4 _ (h.has z hz1) (live_item hL hz1) with e | e
      · exact absurd (by rw [← e]; rfl) hz2
      · exact e
    · obtain ⟨hz1, hz2⟩ := del_mem.1 hz
      have h5 := h3 _ (h.has z hz1) (live_item hL hz1)
      obtain ⟨g1, g2, g3, g4⟩ := hs.ents _ (h.has z hz1)
      exact better_one good_nil g2 g3 f2 f3 (fun e => hz2 (Prod.ext e.1 e.2)) h5
set_option maxRecDepth 100000 in
theorem laq_end {q : Qm} {o : Option Item} {l : List Item} {n : Nat} (hs : SaneQ [] q) (hp : Pops [] (getC []) q.ents o l n) : o = .none ∧ l = [] := by
  cases o with
  | none => exact ⟨rfl, (hp.nothing rfl).1⟩
  | some x =>
    obtain ⟨h1, h2, _, _⟩ := hp.some x rfl
    have := (hs.ents x h1).2.2.2
    have e : getC [] (pairI x) = 0 := rfl
    rw [e] at h2
    omega
set_option maxRecDepth 100000 in
/-- The laws begin: a queue, one more object, and a new count. -/
theorem la_start {w w3 : World} {S Sx : Nat → Prop} {X : Ob} {K T : Nat} {tv : Value} {tb : Option Nat} {J : List Joint} {q : Qm} (hz : Lz w3 S K T tv tb J q) (hS : ∀ k, S k → w.heap.size ≤ k) (hx : X.P w3 Sx) (hSx : ∀ k, Sx k → w.heap.size ≤ k) (hap : ∀ k, S k → ¬ Sx k) (hb : Below w.heap.size w w3) :
    LaS w [] X K T tv tb J w3.heap.size (w3.heap.size + 1) q [] ((w3.alloc (.cells #[.slice none 0 0, .slice none 0 0] 34)).alloc (.cells #[.pointer (some ⟨w3.heap.size, 0, none⟩)] 39)) := by
  obtain ⟨w4, hw4⟩ : ∃ w4, w3.alloc (.cells #[.slice none 0 0, .slice none 0 0] 34) = w4 := ⟨_, rfl⟩
  obtain ⟨w5, hw5⟩ : ∃ w5, w4.alloc (.cells #[.pointer (some ⟨w3.heap.size, 0, none⟩)] 39) = w5 := ⟨_, rfl⟩
  have z4 : w4.heap.size = w3.heap.size + 1 := by rw [← hw4, World.size_alloc]
  have g5 : Grown w3 w5 := by rw [← hw5, ← hw4]; exact ((Grown.refl w3).alloc _).alloc _
  have g45 : Grown w4 w5 := by rw [← hw5]; exact (Grown.refl w4).alloc _
  have hc : Rco w4 0 w3.heap.size 0 #[.slice none 0 0, .slice none 0 0] 34 (.slice none 0 0) (.slice none 0 0) [] := by rw [← hw4]; exact (rnew_rco w3).mono (Nat.zero_le _)
  rw [hw4, hw5]
  have hsz : w5.heap.size = w3.heap.size + 2 := by rw [← hw5, World.size_alloc, z4]
  have hlv : LvIn w5 w3.heap.size (w3.heap.size + 1) (.slice none 0 0) (.slice none 0 0) [] :=
    ⟨hc.below g45.below, by rw [← hw5, ← z4]; exact heap_alloc_new w4 _, GoodC.nil, by simp⟩
  have hmv : ∀ k, mineV w3.heap.size (w3.heap.size + 1) (.slice none 0 0) (.slice none 0 0) k → w3.heap.size ≤ k := by
    rintro k ((rfl | e | e) | rfl)
    · exact Nat.le_refl _
    · simp [Value.ownBlock] at e
    · simp [Value.ownBlock] at e
    · omega
  refine ⟨S, _, Sx, ⟨hz.grown g5, ⟨_, _, hlv, fun _ h => h, hlv.lt⟩, X.kept _ _ _ hx (fun k a _ => g5.below.block k a) g5.below.size, fun k h1 h2 => ?_, hap, fun k h1 h2 => ?_, fun k hk => ?_, fun b hb => by simp at hb, hb.trans (g5.below.mono hb.size)⟩⟩
  · have := hz.lt k h1; have := hmv k h2; omega
  · have := X.lt _ _ hx k h2; have := hmv k h1; omega
  · rcases hk with hk | hk | hk
    · exact hS k hk
    · have := hmv k hk; have := hb.size; omega
    · exact hSx k hk
end Go.Proofs.Ytbnekkcjkdghcaa
