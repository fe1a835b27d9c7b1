/- Right tables, on plain lists; what is made of few texts is right. -/
import Derived.Test.YtikaclfcajnddaaTab
import Derived.Test.YtikaclfcajnddaaWRow
namespace Go.Proofs.Ytikaclfcajnddaa

theorem check_none : ∀ (L : Bag) (k : Nat) (o : Option (ByteArray × Int)), (∀ p ∈ L, wrongW p.1 p.2 = 0) → Rising L → (∀ q, o = some q → ∀ p ∈ L, ahead q.1 p.1 = true) → checkFrom k o L = none
  | [], _, _, _, _, _ => rfl
  | p :: r, k, o, hw, hr, ho => by
    obtain ⟨h1, h2⟩ := List.pairwise_cons.1 hr
    have hp : wrongBy o p = 0 := by
      unfold wrongBy
      rw [if_pos (hw p (List.mem_cons_self ..))]
      cases o with
      | none => rfl
      | some q => simp only; rw [if_pos (ho q rfl p (List.mem_cons_self ..))]
    unfold checkFrom
    rw [if_pos hp]
    exact check_none r (k + 1) (some p) (fun q hq => hw q (List.mem_cons_of_mem _ hq)) h2 fun q e x hx => by cases e; exact h1 x hx
/-- Few products of small numbers are within. -/
theorem dot_small : ∀ (A B : List Int) (t : Int), A.length = B.length → (∀ a ∈ A, 0 ≤ a ∧ a ≤ 1000) → (∀ b ∈ B, 0 ≤ b ∧ b ≤ 1000) → 0 ≤ t → t + 1000000 * (A.length : Int) ≤ 9223372036854775807 → (dotFrom t A B).2 = true
  | [], [], _, _, _, _, _, _ => rfl
  | [], _ :: _, _, h, _, _, _, _ => by simp at h
  | _ :: _, [], _, h, _, _, _, _ => by simp at h
  | a :: A, b :: B, t, h, hA, hB, ht, hl => by
    have ha := hA a (List.mem_cons_self ..)
    have hb := hB b (List.mem_cons_self ..)
    have h0 := Int.mul_nonneg ha.1 hb.1
    have h1 : a * b ≤ 1000 * 1000 := Int.le_trans (Int.mul_le_mul_of_nonneg_right ha.2 hb.1) (Int.mul_le_mul_of_nonneg_left hb.2 (by decide))
    have hc : ((a :: A).length : Int) = (A.length : Int) + 1 := by simp
    rw [hc] at hl
    have hn : 0 ≤ (A.length : Int) := by omega
    unfold dotFrom
    rw [mulOf_yes ha.1 hb.1 (by omega)]
    simp only [cond_true]
    rw [addOf_yes ht h0 (by omega)]
    simp only [cond_true]
    exact dot_small A B (t + a * b) (by simpa using h) (fun x hx => hA x (List.mem_cons_of_mem _ hx)) (fun x hx => hB x (List.mem_cons_of_mem _ hx)) (by omega) (by omega)
/-- A table of few short words, each there a few times. -/
def Few (n : Int) (L : Bag) : Prop := Sound L ∧ ∀ p ∈ L, p.2 ≤ n ∧ 1 ≤ p.1.size ∧ p.1.size ≤ 100
theorem few_right {n : Int} {L : Bag} (h : Few n L) (hn : n ≤ 1000) (hl : L.length ≤ 1000) : checkOf L = (-1, 0) := by
  have hw : ∀ p ∈ L, wrongW p.1 p.2 = 0 := by
    intro p hp
    have h1 := h.2 p hp
    have h2 := h.1.2 p hp
    unfold wrongW
    rw [if_neg (by omega), if_neg (by omega)]
  have hd : (weighOf L).2 = true := by
    unfold weighOf
    refine dot_small _ _ 0 (by simp [countsOf, roomsOf]) (fun a ha => ?_) (fun b hb => ?_) (by decide) (by simp only [countsOf, List.length_map]; omega)
    · obtain ⟨p, hp, rfl⟩ := List.mem_map.1 ha
      have h1 := h.2 p hp
      have h2 := h.1.2 p hp
      omega
    · obtain ⟨p, hp, rfl⟩ := List.mem_map.1 hb
      have h1 := h.2 p hp
      simp only [roomOf]; omega
  unfold checkOf
  rw [check_none L 0 none hw h.1.1 (fun q e => by cases e), hd]
  rfl
theorem few_of : ∀ (P : List (List UInt8)) (X : Bag) (n : Int), Few n X → 0 ≤ n → n + (P.length : Int) ≤ 1000 → (∀ t ∈ P, t ≠ [] ∧ t.length ≤ 100) → Few (n + (P.length : Int)) (ofW X P)
  | [], X, n, h, _, _, _ => by simpa [ofW] using h
  | t :: r, X, n, h, h0, hl, hP => by
    have ht := hP t (List.mem_cons_self ..)
    have hlen : 0 < t.length := List.length_pos_iff.2 ht.1
    have hc : ((t :: r).length : Int) = (r.length : Int) + 1 := by simp
    rw [hc] at hl ⊢
    have hcnt : countOf X (ofB t) ≤ n := by
      rcases countOf_cases X (ofB t) with ⟨e, _⟩ | e
      · omega
      · exact (h.2 _ e).1
    have hc0 := h.1.count (ofB t)
    have hsz : (ofB t).size = t.length := ofB_size t
    have e1 := addW_ok (L := X) (s := ofB t) (n := 1) (by omega) (by omega)
    have hs := h.1.add 1 (s := ofB t) (by omega)
    have hf : Few (n + 1) (addW X (ofB t) 1).1 := by
      refine ⟨hs, fun p hp => ?_⟩
      rw [e1] at hp
      rcases (mem_putW h.1.1 p).1 hp with rfl | ⟨k, _⟩
      · simp only; omega
      · have := h.2 p k; omega
    have := few_of r (addW X (ofB t) 1).1 (n + 1) hf (by omega) (by omega) fun u hu => hP u (List.mem_cons_of_mem _ hu)
    have e2 : n + ((r.length : Int) + 1) = n + 1 + (r.length : Int) := by omega
    rw [e2]
    exact this
theorem few_nil : Few 0 [] := ⟨sound_nil, by simp⟩
/-- What Of answers: a table and an error's number. -/
def tableW (P : List (List UInt8)) : Bag × Int := if (addAllW [] P).2 = 0 then addAllW [] P else ([], (addAllW [] P).2)
/-- Few texts are counted, up to an empty one. -/
theorem upto_bag {P : List (List UInt8)} {k : Nat} (hk : k ≤ P.length) (hl : P.length ≤ 1000) (h : ∀ j (h : j < P.length), j < k → P[j] ≠ []) (hs : ∀ t ∈ P, t.length ≤ 100) (he : ∀ h : k < P.length, P[k] = []) :
    addAllW [] P = (ofW [] (P.take k), if k < P.length then 1 else 0) := by
  refine addAll_upto P [] k 0 sound_nil (fun s => by simp [countOf]) (by omega) hk (fun t ht => ?_) he
  have hm := hs t (List.mem_of_mem_take ht)
  obtain ⟨j, hj, rfl⟩ := List.mem_iff_getElem.1 ht
  rw [List.length_take] at hj
  have := h j (by omega) (by omega)
  rw [List.getElem_take] at hm ⊢
  exact ⟨this, by omega⟩
theorem table_empty {P : List (List UInt8)} {k : Nat} (hk : k < P.length) (hl : P.length ≤ 1000) (h : ∀ j (h : j < P.length), j < k → P[j] ≠ []) (hs : ∀ t ∈ P, t.length ≤ 100) (he : P[k] = []) : tableW P = ([], 1) := by
  unfold tableW
  rw [upto_bag (by omega) hl h hs (fun _ => he), if_pos hk]
  rfl
theorem table_all {P : List (List UInt8)} (hl : P.length ≤ 1000) (h : ∀ j (h : j < P.length), j < P.length → P[j] ≠ []) (hs : ∀ t ∈ P, t.length ≤ 100) : tableW P = (ofW [] P, 0) ∧ checkOf (ofW [] P) = (-1, 0) ∧ Fits (ofW [] P) := by
  have e := upto_bag (Nat.le_refl _) hl h hs (fun k => absurd k (Nat.lt_irrefl _))
  rw [List.take_length, if_neg (Nat.lt_irrefl _)] at e
  have hf := few_of P [] 0 few_nil (by decide) (by omega) fun t ht => by
    obtain ⟨j, hj, rfl⟩ := List.mem_iff_getElem.1 ht
    exact ⟨h j hj hj, hs _ ht⟩
  have hlen := len_ofW P []
  rw [List.length_nil] at hlen
  refine ⟨?_, few_right hf (by omega) (by omega), hf.1.fits⟩
  unfold tableW
  rw [e]
  rfl
end Go.Proofs.Ytikaclfcajnddaa
