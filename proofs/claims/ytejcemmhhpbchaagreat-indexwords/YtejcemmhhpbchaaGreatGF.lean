/- Texts in one: Gone, Doc, Run, Sum. -/
import Derived.Test.YtejcemmhhpbchaaGreatMrg2
/- What is gone behind a merge. -/
namespace Go.Proofs.YtejcemmhhpbchaaGreat
open Go.RowKit Go.Maps

/-! What is gone. -/
set_option maxRecDepth 100000 in
theorem timesL_ne {p : Int × Int} {s : Int} (h : s ≠ p.1) (Z : List Int) : timesL p (s :: Z) = timesL p Z := by
  cases Z with
  | nil => rfl
  | cons y r => rw [timesL, if_neg fun e => h e.1]
set_option maxRecDepth 100000 in
theorem mergeL_head (p : Int × Int) (s y : Int) (r : List Int) : ∃ Z, mergeL p s (y :: r) = y :: Z ∨ mergeL p s (y :: r) = s :: Z := by
  cases r with
  | nil => exact ⟨[], .inl rfl⟩
  | cons z r =>
    rw [mergeL]
    split
    · exact ⟨_, .inr rfl⟩
    · exact ⟨_, .inl rfl⟩
set_option maxRecDepth 100000 in
theorem gone_of {p : Int × Int} {s : Int} (h1 : s ≠ p.1) (h2 : s ≠ p.2) : ∀ X : List Int, timesL p (mergeL p s X) = 0
  | [] => rfl
  | [x] => rfl
  | x :: y :: r => by
    rw [mergeL]
    split
    · rw [timesL_ne h1]; exact gone_of h1 h2 r
    · rename_i hno
      have ih := gone_of h1 h2 (y :: r)
      obtain ⟨Z, e | e⟩ := mergeL_head p s y r
      · rw [e] at ih ⊢
        rw [timesL, if_neg hno]; exact ih
      · rw [e] at ih ⊢
        rw [timesL, if_neg fun k => h2 k.2]; exact ih
set_option maxRecDepth 100000 in
theorem none_of {p : Int × Int} : ∀ {X : List Int}, (∀ x ∈ X, x ≠ p.1) ∨ (∀ x ∈ X, x ≠ p.2) → timesL p X = 0
  | [], _ => rfl
  | [x], _ => rfl
  | x :: y :: r, h => by
    rw [timesL, if_neg fun e => ?_]
    · exact none_of (h.imp (fun k z hz => k z (List.mem_cons_of_mem _ hz)) (fun k z hz => k z (List.mem_cons_of_mem _ hz)))
    · rcases h with h | h
      · exact h x (by simp) e.1
      · exact h y (by simp) e.2
set_option maxRecDepth 100000 in
theorem merge_same {p : Int × Int} {s : Int} : ∀ {X : List Int}, timesL p X = 0 → mergeL p s X = X
  | [], _ => rfl
  | [x], _ => rfl
  | x :: y :: r, h => by
    rw [timesL] at h
    split at h
    · omega
    · rename_i hno
      rw [mergeL, if_neg hno, merge_same h]
set_option maxRecDepth 100000 in
theorem gone_any {p : Int × Int} {s : Int} {X : List Int} (h : ∀ x ∈ X, x ≠ s) : timesL p (mergeL p s X) = 0 := by
  by_cases h1 : s = p.1
  · have h0 : timesL p X = 0 := none_of (.inl fun x hx => h1 ▸ h x hx)
    rw [merge_same h0, h0]
  · by_cases h2 : s = p.2
    · have h0 : timesL p X = 0 := none_of (.inr fun x hx => h2 ▸ h x hx)
      rw [merge_same h0, h0]
    · exact gone_of h1 h2 X
set_option maxRecDepth 100000 in
theorem changes_none {f : Int × Int → Int} {L : List Chg} (h : ChangesOf f L) (h0 : ∀ q, f q = 0) : L = [] := by
  cases L with
  | nil => rfl
  | cons x r =>
    have := (h.2 x.1 x.2).1 (by simp)
    rw [h0] at this
    exact absurd this.2.1.symm this.2.2
set_option maxRecDepth 100000 in
theorem chg_cells {w : World} {base : Nat} {v : Value} {L : List Chg} (h : ownE chgE w base v L) {g n c : Nat} (hv : v = .slice (some ⟨g, 0, none⟩) n c) {k : Nat} (hk : k < L.length) :
    w.cell? ⟨g, k * 3, none⟩ = some (.int .i64 L[k].1.1) ∧ w.cell? ⟨g, k * 3 + 1, none⟩ = some (.int .i64 L[k].1.2) ∧ w.cell? ⟨g, k * 3 + 2, none⟩ = some (.int .i64 L[k].2) := by
  subst hv
  have := elts_at h.reads (Below.refl _ _) hk
  exact ⟨by have := this 0 _ rfl; rwa [add_zero_off] at this, by have := this 1 _ rfl; rwa [add_zero_off] at this, by have := this 2 _ rfl; rwa [add_zero_off] at this⟩
end Go.Proofs.YtejcemmhhpbchaaGreat
/- The document's symbols; two rows of numbers are the same. -/
namespace Go.Proofs.YtejcemmhhpbchaaGreat
open Go.RowKit Go.Maps

set_option maxRecDepth 100000 in
theorem eltsAt.same_drewN {α : Type} {R : Elt α} {w : World} {v : Value} {L : List α} (h : eltsAt R w v L) (n : Nat) : eltsAt R (w.drewN n) v L := h
set_option maxRecDepth 100000 in
set_option maxHeartbeats 2000000 in
theorem ints_any (v u : Value) (X : List Int) (w : World) (hv : eltsAt intE w v X) (hu : eltsAt intE w u X) (hl : X.length ≤ 1000) : Calls Tryz.prog 18 #[v, u] w fun e w' => e = .returned (.bool true) ∧ ∃ n, w' = w.drewN n := by
  have HV := Lib.hid hv; have HU := Lib.hid hu
  obtain ⟨a, ca, rfl, hca⟩ := hv
  obtain ⟨b, cb, rfl, hcb⟩ := hu
  clear hca hcb
  go_enter Tryz.func18, Tryz.ntmps18
  go_wp2
  go_loopw [5] (fun i wr => (∃ k : Nat, i = .int .i64 (k : Int) ∧ k ≤ X.length) ∧ ∃ n, wr = w.drewN n) (fun i _ => X.length - (intOf i).toNat)
  case atStart => exact ⟨⟨0, rfl, Nat.zero_le _⟩, 0, rfl⟩
  case round =>
    obtain ⟨⟨k, rfl, hk⟩, n, rfl⟩ := hrel
    by_cases hgo : k < X.length
    · obtain ⟨_, _, e1, hc1⟩ := HV.out
      obtain ⟨rfl, _, rfl⟩ := Value.slice.inj e1
      obtain ⟨_, _, e2, hc2⟩ := HU.out
      obtain ⟨rfl, _, rfl⟩ := Value.slice.inj e2
      obtain ⟨ad, rfl, _, p1⟩ := hc1 k hgo
      obtain ⟨bd, rfl, _, p2⟩ := hc2 k hgo
      have c1 : (w.drewN n).cell? (ad.add k) = some (.int .i64 X[k]) := by have := p1 0 _ rfl; rwa [show k * intE.n + 0 = k by show k * 1 + 0 = k; omega] at this
      have c2 : (w.drewN n).cell? (bd.add k) = some (.int .i64 X[k]) := by have := p2 0 _ rfl; rwa [show k * intE.n + 0 = k by show k * 1 + 0 = k; omega] at this
      clear hc1 hc2 p1 p2 e1 e2
      generalize hwd : w.drewN n = wd at *
      go_wp2_with fail
      go_quiet (fail)
      go_wp2
      go_roundw
      case measure => simp [intOf]; omega
      case rel => exact ⟨⟨k + 1, by simp, hgo⟩, n + nq, by rw [← hwd, World.drewN_drewN]⟩
    · go_wp2
      go_ret
      exact ⟨rfl, _, rfl⟩
def RSymRel (s : ByteArray) (w : World) (v i : Value) (wr : World) : Prop :=
  ∃ k : Nat, i = .int .i64 (k : Int) ∧ k ≤ s.size ∧ ownE intE wr w.heap.size v ((syms s).take k) ∧ Below w.heap.size w wr
set_option maxRecDepth 100000 in
set_option maxHeartbeats 2000000 in
theorem rsym_any (s : ByteArray) (w : World) (hs : s.size ≤ 1000) : Calls Tryz.prog 31 #[.string s] w fun e w' => ∃ v, e = .returned v ∧ ownE intE w' w.heap.size v (syms s) ∧ Below w.heap.size w w' := by
  go_enter Tryz.func31, Tryz.ntmps31
  go_wp2
  go_loopw [3, 4] (fun v i wr => RSymRel s w v i wr) (fun _ i _ => s.size - (intOf i).toNat)
  case atStart => exact ⟨0, rfl, Nat.zero_le _, ownE.nil w _, Below.refl _ w⟩
  case round =>
    obtain ⟨k, rfl, hk, ho, hbel⟩ := hrel
    have HO := Lib.hid ho; have HB := Lib.hid hbel
    have hlen := syms_len s
    clear ho hbel
    by_cases hgo : k < s.size
    · obtain ⟨z, hz⟩ : ∃ z, (syms s)[k]'(by omega) = z := ⟨_, rfl⟩
      have hb0 : wrap64 (s[k].toNat : Int) = z := by
        rw [wrap64_small (by omega) (by have := s[k].toNat_lt; omega), ← hz]
        simp [syms, bs]
        rfl
      have HA : Hid (ownE intE (wr.alloc (.cells #[.int .i64 z] 3)) w.heap.size u3 ((syms s).take k)) := Lib.hid (HO.out.alloc _)
      have HE : Hid (eltsAt intE (wr.alloc (.cells #[.int .i64 z] 3)) (.slice (some ⟨wr.heap.size, 0, none⟩) 1 1) [z]) := Lib.hid (one_elt intE wr z)
      have HZ : Hid (w.heap.size ≤ (wr.alloc (.cells #[.int .i64 z] 3)).heap.size) := Lib.hid (by rw [World.size_alloc]; have := HB.out.size; omega)
      go_wp2_with (at_builtin; refine wpList_append_elts intE rfl (.tmp 11) (.tmp 16) rfl w.heap.size u3 _ ((syms s).take k) [z] rfl rfl HA.out HE.out (someNone _ _ _) (by simp; omega) HZ.out ?_; intro r5 w5 hown5 hg5 _; have HO5 := Lib.hid hown5; have HG5 := Lib.hid hg5; clear hown5 hg5)
      go_roundw
      case measure => simp [intOf]; omega
      case rel => exact ⟨k + 1, by simp, hgo, by rw [ptake_snoc (by omega), hz]; exact HO5.out, (HB.out.alloc HB.out.size _).grown HG5.out HZ.out fun g e => (HO.out.lt g e).1⟩
    · have HT : Hid ((syms s).take k = syms s) := Lib.hid (List.take_of_length_le (by omega))
      go_wp2
      go_ret
      exact ⟨_, rfl, by have := HO.out; rwa [HT.out] at this, HB.out⟩
end Go.Proofs.YtejcemmhhpbchaaGreat
/- Merges one behind another; what they spell: plain lists. -/
namespace Go.Proofs.YtejcemmhhpbchaaGreat
open Go.RowKit Go.Maps

def spell (s : Int) (p : Int × Int) (X : List Int) : List Int := X.flatMap fun x => if x = s then [p.1, p.2] else [x]
set_option maxRecDepth 100000 in
theorem spell_cons (s : Int) (p : Int × Int) (x : Int) (X : List Int) : spell s p (x :: X) = (if x = s then [p.1, p.2] else [x]) ++ spell s p X := rfl
set_option maxRecDepth 100000 in
theorem spell_snoc (s : Int) (p : Int × Int) (x : Int) (X : List Int) : spell s p (X ++ [x]) = spell s p X ++ (if x = s then [p.1, p.2] else [x]) := by simp [spell]
set_option maxRecDepth 100000 in
theorem spell_len (s : Int) (p : Int × Int) : ∀ X : List Int, (spell s p X).length ≤ 2 * X.length
  | [] => by simp [spell]
  | x :: r => by
    have := spell_len s p r
    rw [spell_cons]
    split <;> simp <;> omega
set_option maxRecDepth 100000 in
theorem spell_merge {p : Int × Int} {s : Int} : ∀ {X : List Int}, (∀ x ∈ X, x ≠ s) → spell s p (mergeL p s X) = X
  | [], _ => rfl
  | [x], h => by simp [mergeL, spell, h x (by simp)]
  | x :: y :: r, h => by
    rw [mergeL]
    split
    · rename_i e
      rw [spell_cons, if_pos rfl, spell_merge (X := r) fun z hz => h z (by simp [hz]), ← e.1, ← e.2]
      rfl
    · rw [spell_cons, if_neg (h x (by simp)), spell_merge (X := y :: r) fun z hz => h z (List.mem_cons_of_mem _ hz)]
      rfl
/-- The symbols behind so many merges, the i-th one makes the symbol 1000 + i. -/
def runX (X : List Int) (L : List (Int × Int)) : Nat → List Int
  | 0 => X
  | i + 1 => mergeL (L.getD i (0, 0)) (1000 + (i : Int)) (runX X L i)
set_option maxRecDepth 100000 in
theorem runX_mem {X : List Int} {L : List (Int × Int)} (h : ∀ x ∈ X, 0 ≤ x ∧ x < 256) : ∀ (i : Nat), ∀ x ∈ runX X L i, 0 ≤ x ∧ (x < 256 ∨ 1000 ≤ x) ∧ x < 1000 + (i : Int)
  | 0, x, hx => by have := h x hx; omega
  | i + 1, x, hx => by
    rcases mergeL_mem hx with e | e
    · have := runX_mem h i x e; omega
    · omega
set_option maxRecDepth 100000 in
theorem runX_len (X : List Int) (L : List (Int × Int)) : ∀ i, (runX X L i).length ≤ X.length
  | 0 => Nat.le_refl _
  | i + 1 => by
    have := runX_len X L i
    have := pmerge_len (p := L.getD i (0, 0)) (s := 1000 + (i : Int)) (runX X L i)
    rw [runX]; omega
set_option maxRecDepth 100000 in
theorem runX_spell {X : List Int} {L : List (Int × Int)} (h : ∀ x ∈ X, 0 ≤ x ∧ x < 256) {i : Nat} (hi : i < L.length) : spell (1000 + (i : Int)) L[i] (runX X L (i + 1)) = runX X L i := by
  rw [runX, show L.getD i (0, 0) = L[i] by simp [hi]]
  exact spell_merge fun x hx => by have := runX_mem h i x hx; omega
set_option maxRecDepth 100000 in
theorem runX_succ {X : List Int} {L : List (Int × Int)} {i : Nat} (hi : i < L.length) : runX X L (i + 1) = mergeL L[i] (1000 + (i : Int)) (runX X L i) := by
  rw [runX, show L.getD i (0, 0) = L[i] by simp [hi]]
set_option maxRecDepth 100000 in
theorem two_elt (w : World) (a b : Int) : eltsAt intE (w.alloc (.cells #[.int .i64 a, .int .i64 b] 3)) (.slice (some ⟨w.heap.size, 0, none⟩) 2 2) [a, b] :=
  (rowE.own (R := intE) (b := 0) (L := [a, b]) ⟨_, heap_alloc_new w _, rfl⟩ (Nat.zero_le _) (by unfold maxLen; simp)).reads
set_option maxRecDepth 100000 in
theorem pair_some {w : World} {L : List (Int × Int)} {a : Option Addr} {n c : Nat} (h : eltsAt pairE w (.slice a n c) L) {k : Nat} (hk : k < L.length) : ∃ ad, a = some ad := by
  obtain ⟨_, _, e, hc⟩ := h
  obtain ⟨ad, e2, _⟩ := hc k hk
  exact ⟨ad, (Value.slice.inj e).1.trans e2⟩
set_option maxRecDepth 100000 in
theorem int_at {w : World} {L : List Int} {a : Option Addr} {n c : Nat} (h : eltsAt intE w (.slice a n c) L) {k : Nat} (hk : k < L.length) : ∃ ad, a = some ad ∧ w.cell? (ad.add k) = some (.int .i64 L[k]) := by
  obtain ⟨_, _, e, hc⟩ := h
  obtain ⟨ad, e2, _, h1⟩ := hc k hk
  refine ⟨ad, (Value.slice.inj e).1.trans e2, ?_⟩
  have := h1 0 _ rfl
  rwa [show k * intE.n + 0 = k by show k * 1 + 0 = k; omega] at this
/-- The sequence behind so many merges. -/
def RunRel (w : World) (K g : Nat) (X : List Int) (L : List (Int × Int)) (i : Value) (wr : World) : Prop :=
  ∃ (k : Nat) (Y : List Int), i = .int .i64 (k : Int) ∧ k ≤ L.length ∧ SeqO wr K g (runX X L k) Y ∧ Below w.heap.size w wr
end Go.Proofs.YtejcemmhhpbchaaGreat
/- Changes, summed: plain lists. -/
namespace Go.Proofs.YtejcemmhhpbchaaGreat
open Go.RowKit Go.Maps

def adj : List Int → List (Int × Int)
  | x :: y :: r => (x, y) :: adj (y :: r)
  | _ => []
set_option maxRecDepth 100000 in
theorem adj_len : ∀ X : List Int, (adj X).length = X.length - 1
  | [] => rfl
  | [_] => rfl
  | x :: y :: r => by have := adj_len (y :: r); simp [adj] at this ⊢; omega
set_option maxRecDepth 100000 in
theorem adj_mem : ∀ {X : List Int} {q : Int × Int}, q ∈ adj X → q.1 ∈ X ∧ q.2 ∈ X
  | [], _, h => by simp [adj] at h
  | [_], _, h => by simp [adj] at h
  | x :: y :: r, q, h => by
    rw [adj] at h
    rcases List.mem_cons.1 h with e | e
    · subst e; simp
    · have := adj_mem e
      exact ⟨List.mem_cons_of_mem _ this.1, List.mem_cons_of_mem _ this.2⟩
def sumF (f : Int × Int → Int) : List (Int × Int) → Int
  | [] => 0
  | q :: r => f q + sumF f r
set_option maxRecDepth 100000 in
theorem sumF_app (f : Int × Int → Int) (a b : List (Int × Int)) : sumF f (a ++ b) = sumF f a + sumF f b := by
  induction a with
  | nil => simp [sumF]
  | cons q r ih => simp only [List.cons_append, sumF, ih]; omega
set_option maxRecDepth 100000 in
theorem sumF_sub (f g : Int × Int → Int) : ∀ a : List (Int × Int), sumF (fun q => f q - g q) a = sumF f a - sumF g a
  | [] => by simp [sumF]
  | q :: r => by simp only [sumF, sumF_sub f g r]; omega
set_option maxRecDepth 100000 in
theorem sumF_zero {f : Int × Int → Int} : ∀ {a : List (Int × Int)}, (∀ q ∈ a, f q = 0) → sumF f a = 0
  | [], _ => rfl
  | q :: r, h => by rw [sumF, h q (by simp), sumF_zero fun z hz => h z (List.mem_cons_of_mem _ hz)]; rfl
set_option maxRecDepth 100000 in
theorem sum_one (a : Int × Int) (g : Int × Int → Int) : ∀ {Q : List (Int × Int)}, Q.Nodup → sumF (fun q => (if a = q then 1 else 0) + g q) Q = (if a ∈ Q then 1 else 0) + sumF g Q
  | [], _ => by simp [sumF]
  | q :: r, h => by
    rw [List.nodup_cons] at h
    have ih := sum_one a g h.2
    simp only [sumF, ih]
    by_cases e : a = q
    · subst e
      rw [if_pos rfl, if_neg h.1, if_pos (by simp)]; omega
    · rw [if_neg e]
      by_cases hm : a ∈ r
      · rw [if_pos hm, if_pos (List.mem_cons_of_mem _ hm)]; omega
      · rw [if_neg hm, if_neg (by simp [e, hm])]; omega
set_option maxRecDepth 100000 in
theorem sum_cnt {Q : List (Int × Int)} (hn : Q.Nodup) : ∀ X : List Int, (∀ q ∈ adj X, q ∈ Q) → sumF (cntP X) Q = ((X.length - 1 : Nat) : Int)
  | [], _ => sumF_zero fun _ _ => rfl
  | [_], _ => sumF_zero fun _ _ => rfl
  | x :: y :: r, h => by
    have ih := sum_cnt hn (y :: r) fun q hq => h q (by rw [adj]; exact List.mem_cons_of_mem _ hq)
    have e : cntP (x :: y :: r) = fun q => (if (x, y) = q then 1 else 0) + cntP (y :: r) q := by funext q; rw [cntP]
    rw [e, sum_one _ _ hn, if_pos (h (x, y) (by rw [adj]; simp)), ih]
    simp; omega
set_option maxRecDepth 100000 in
theorem ext_nodup : ∀ (P Q : List (Int × Int)), Q.Nodup → ∃ E, (Q ++ E).Nodup ∧ (∀ p ∈ P, p ∈ Q ++ E) ∧ ∀ e ∈ E, e ∈ P
  | [], Q, h => ⟨[], by simpa using h, fun p hp => by simp at hp, fun e he => by simp at he⟩
  | p :: P, Q, h => by
    obtain ⟨E, h1, h2, h3⟩ := ext_nodup P Q h
    by_cases hp : p ∈ Q ++ E
    · refine ⟨E, h1, fun q hq => ?_, fun e he => List.mem_cons_of_mem _ (h3 e he)⟩
      rcases List.mem_cons.1 hq with e | e
      · rw [e]; exact hp
      · exact h2 q e
    · refine ⟨E ++ [p], ?_, fun q hq => ?_, fun e he => ?_⟩
      · rw [← List.append_assoc]
        exact List.nodup_append.2 ⟨h1, by simp, fun a ha b hb e => by simp at hb; subst hb; exact hp (e ▸ ha)⟩
      · rw [← List.append_assoc, List.mem_append]
        rcases List.mem_cons.1 hq with e | e
        · exact .inr (by simp [e])
        · exact .inl (h2 q e)
      · rcases List.mem_append.1 he with e' | e'
        · exact List.mem_cons_of_mem _ (h3 e e')
        · simp at e'; subst e'; simp
def sumC : List Chg → Int
  | [] => 0
  | x :: r => x.2 + sumC r
set_option maxRecDepth 100000 in
theorem sumC_snoc (x : Chg) : ∀ L : List Chg, sumC (L ++ [x]) = sumC L + x.2
  | [] => by simp [sumC]
  | y :: r => by simp only [List.cons_append, sumC, sumC_snoc x r]; omega
set_option maxRecDepth 100000 in
theorem sumC_keys {f : Int × Int → Int} : ∀ {L : List Chg}, (∀ x ∈ L, f x.1 = x.2) → sumF f (L.map (·.1)) = sumC L
  | [], _ => rfl
  | x :: r, h => by simp only [List.map_cons, sumF, sumC]; rw [h x (by simp), sumC_keys fun z hz => h z (List.mem_cons_of_mem _ hz)]
set_option maxRecDepth 100000 in
theorem chg_sum {X X' : List Int} {L : List Chg} (h : ChangesOf (fun r => cntP X' r - cntP X r) L) (hX : FitsX X) (hX' : FitsX X') : sumC L = ((X'.length - 1 : Nat) : Int) - ((X.length - 1 : Nat) : Int) := by
  have hk : (L.map (·.1)).Nodup := by
    rw [List.Nodup, List.pairwise_map]
    refine h.1.imp ?_
    intro x y hxy e
    have e' : x.1 = y.1 := e
    rw [e'] at hxy
    exact pb_irrefl _ hxy
  obtain ⟨E, h1, h2, h3⟩ := ext_nodup (adj X ++ adj X') (L.map (·.1)) hk
  have f1 := sum_cnt h1 X fun q hq => h2 q (List.mem_append_left _ hq)
  have f2 := sum_cnt h1 X' fun q hq => h2 q (List.mem_append_right _ hq)
  have f3 := sumF_sub (cntP X') (cntP X) (L.map (·.1) ++ E)
  rw [sumF_app] at f3
  have f4 : sumF (fun q => cntP X' q - cntP X q) E = 0 := sumF_zero fun q hq => by
    have hf : FitsPr q := by
      rcases List.mem_append.1 (h3 q hq) with e | e
      · exact ⟨hX _ (adj_mem e).1, hX _ (adj_mem e).2⟩
      · exact ⟨hX' _ (adj_mem e).1, hX' _ (adj_mem e).2⟩
    have hno : q ∉ L.map (·.1) := fun hin => (List.nodup_append.1 h1).2.2 q hin q hq rfl
    by_cases e : cntP X' q - cntP X q = 0
    · exact e
    · exact absurd (List.mem_map.2 ⟨(q, _), (h.2 q _).2 ⟨hf, rfl, e⟩, rfl⟩) hno
  have f5 := sumC_keys (f := fun q => cntP X' q - cntP X q) (L := L) fun x hx => ((h.2 x.1 x.2).1 hx).2.1
  omega
set_option maxRecDepth 100000 in
theorem cnt_le : ∀ (X : List Int) (q : Int × Int), cntP X q ≤ (X.length : Int)
  | [], _ => by simp [cntP]
  | [_], _ => by simp [cntP]
  | x :: y :: r, q => by
    have := cnt_le (y :: r) q
    rw [cntP]
    simp at this ⊢
    split <;> omega
set_option maxRecDepth 100000 in
theorem chg_bound {X X' : List Int} {L : List Chg} (h : ChangesOf (fun r => cntP X' r - cntP X r) L) (h1 : X.length ≤ 1000) (h2 : X'.length ≤ 1000) : ∀ x ∈ L, -1000 ≤ x.2 ∧ x.2 ≤ 1000 := by
  intro x hx
  have := ((h.2 x.1 x.2).1 hx).2.1
  have a1 := cnt_le X x.1; have a2 := cnt_le X' x.1; have a3 := cnt_nonneg X x.1; have a4 := cnt_nonneg X' x.1
  simp only at this
  omega
set_option maxRecDepth 100000 in
theorem sumC_bound : ∀ {L : List Chg}, (∀ x ∈ L, -1000 ≤ x.2 ∧ x.2 ≤ 1000) → -1000 * (L.length : Int) ≤ sumC L ∧ sumC L ≤ 1000 * (L.length : Int)
  | [], _ => by simp [sumC]
  | x :: r, h => by
    have h1 := h x (by simp)
    have h2 := sumC_bound (L := r) fun z hz => h z (List.mem_cons_of_mem _ hz)
    simp only [sumC, List.length_cons]
    omega
set_option maxRecDepth 100000 in
theorem sumC_take {L : List Chg} {m : Nat} (hm : m < L.length) : sumC (L.take (m + 1)) = sumC (L.take m) + L[m].2 := by
  rw [List.take_add_one, List.getElem?_eq_getElem hm]
  exact sumC_snoc _ _
set_option maxRecDepth 100000 in
theorem changes_none_of {X : List Int} {L : List Chg} (h : ChangesOf (cntP X) L) : ChangesOf (fun r => cntP X r - cntP [] r) L := by
  have e : (fun r => cntP X r - cntP [] r) = cntP X := by funext r; simp [cntP]
  rw [e]; exact h
set_option maxRecDepth 100000 in
theorem cell3 (ad : Addr) (n : Nat) : ad.add (n + 2) = ⟨(ad.add n).block, (ad.add n).off + 2, none⟩ := by
  unfold Addr.add
  by_cases h : n = 0
  · subst h; simp
  · simp [h, Nat.add_assoc]
set_option maxRecDepth 100000 in
/-- The cells of a change. -/
theorem chg_at {w : World} {L : List Chg} {a : Option Addr} {n c : Nat} (h : eltsAt chgE w (.slice a n c) L) {k : Nat} (hk : k < L.length) : ∃ ad, a = some ad ∧ w.cell? (ad.add (k * 3)) = some (.int .i64 L[k].1.1) ∧ w.cell? ⟨(ad.add (k * 3)).block, (ad.add (k * 3)).off + 1, none⟩ = some (.int .i64 L[k].1.2) ∧ w.cell? ⟨(ad.add (k * 3)).block, (ad.add (k * 3)).off + 2, none⟩ = some (.int .i64 L[k].2) := by
  obtain ⟨_, _, e, hc⟩ := h
  obtain ⟨ad, e2, _, h1⟩ := hc k hk
  refine ⟨ad, (Value.slice.inj e).1.trans e2, h1 0 _ rfl, ?_, ?_⟩
  · rw [← two_cell]; exact h1 1 _ rfl
  · rw [← cell3]; exact h1 2 _ rfl
end Go.Proofs.YtejcemmhhpbchaaGreat
