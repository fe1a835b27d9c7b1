/- Memory words of layer 3: rows of texts, a splitter, and what a call leaves alone. -/
import Derived.Test.YtkkpjbhnakbipaaWords
import Derived.Laws.CopyOwn
import Derived.Laws.AppendOwnNone
import Derived.BigQuiet
namespace Go.Proofs.Ytkkpjbhnakbipaa
open Go.RowKit

theorem Try.info5 : (Try.prog.info? 5).map (fun i => (i.zero, i.size, i.bytes)) = some (some (.int .u8 0), 1, 1) := by kernel_rfl
theorem Try.info9 : (Try.prog.info? 9).map (fun i => (i.zero, i.size, i.bytes)) = some (some (.string ⟨#[]⟩), 1, 16) := by kernel_rfl
/-! Rows of texts. -/
def tx (l : List UInt8) : Value := .string ⟨l.toArray⟩
def scells (L : List (List UInt8)) : List Value := L.map tx
theorem scells_len (L : List (List UInt8)) : (scells L).length = L.length := by simp [scells]
theorem scells_append (a b : List (List UInt8)) : scells (a ++ b) = scells a ++ scells b := by simp [scells]
theorem scells_one (L : List (List UInt8)) : ∀ u ∈ scells L, u.oneCell' = true := by
  intro u hu
  simp only [scells, List.mem_map] at hu
  obtain ⟨b, _, rfl⟩ := hu
  rfl
/-- The slice value v owns the texts L. -/
def ownS (w : World) (base : Nat) (v : Value) (L : List (List UInt8)) : Prop := w.ownsRow base 9 1 v L.length (scells L)
/-- The slice value v reads as the texts L. -/
def strsAt (w : World) (v : Value) (L : List (List UInt8)) : Prop :=
  ∃ a cap, v = .slice a L.length cap ∧ ∀ j (h : j < L.length), ∃ ad, a = some ad ∧ w.cell? (ad.add j) = some (tx L[j])
theorem add_zero_off (g j : Nat) : (⟨g, 0, none⟩ : Addr).add j = ⟨g, j, none⟩ := by unfold Addr.add; split <;> simp_all
theorem ownS.reads {w : World} {base : Nat} {v : Value} {L : List (List UInt8)} (h : ownS w base v L) : strsAt w v L := by
  rcases h.2 with ⟨rfl, h0⟩ | ⟨g, cap, cur, rfl, hb, hg, h1, h2, h3, h4⟩
  · refine ⟨none, 0, by rw [h0], fun j hj => by omega⟩
  · refine ⟨_, cap, rfl, fun j hj => ⟨_, rfl, ?_⟩⟩
    rw [add_zero_off, cell_of_row w g j cur 9 (0, 0) hg]
    have hx : (scells L)[j]? = some (tx L[j]) := by simp [scells, List.getElem?_eq_getElem hj]
    rw [← hx, ← h4, Nat.mul_one, List.getElem?_take_of_lt hj]
    simp
theorem ownS.kept {w w' : World} {base : Nat} {v : Value} {L : List (List UInt8)} (h : ownS w base v L) (hk : ∀ g, v.ownBlock = some g → w'.heap[g]? = w.heap[g]?) : ownS w' base v L := by
  refine ⟨h.1, ?_⟩
  rcases h.2 with hn | ⟨g, cap, cur, rfl, hb, hgg, rest⟩
  · exact .inl hn
  · exact .inr ⟨g, cap, cur, rfl, hb, by rw [hk g rfl]; exact hgg, rest⟩
theorem ownB.kept {w w' : World} {base : Nat} {e : TypeId} {v : Value} {L : List UInt8} (h : ownB w base e v L) (hk : ∀ g, v.ownBlock = some g → w'.heap[g]? = w.heap[g]?) : ownB w' base e v L := by
  refine ⟨h.1, ?_⟩
  rcases h.2 with hn | ⟨g, cap, cur, rfl, hb, hgg, rest⟩
  · exact .inl hn
  · exact .inr ⟨g, cap, cur, rfl, hb, by rw [hk g rfl]; exact hgg, rest⟩
theorem ownB.form {w : World} {base : Nat} {e : TypeId} {v : Value} {l : List UInt8} (h : ownB w base e v l) : ∃ a cap, v = .slice a l.length cap := by
  rcases h.2 with ⟨rfl, h0⟩ | ⟨g, cap, cur, rfl, _⟩
  · exact ⟨none, 0, by rw [h0]⟩
  · exact ⟨_, cap, rfl⟩
theorem ownB.lt {w : World} {base : Nat} {e : TypeId} {v : Value} {l : List UInt8} (h : ownB w base e v l) : ∀ k, v.ownBlock = some k → base ≤ k ∧ k < w.heap.size := World.ownsRow.lt h
theorem ownS.lt {w : World} {base : Nat} {v : Value} {l : List (List UInt8)} (h : ownS w base v l) : ∀ k, v.ownBlock = some k → base ≤ k ∧ k < w.heap.size := World.ownsRow.lt h
theorem ownB.block {w : World} {base : Nat} {e : TypeId} {v : Value} {l : List UInt8} (h : ownB w base e v l) : ∀ g, v.ownBlock = some g → ∃ cs, w.heap[g]? = some (.cells cs e (0, 0)) := by
  intro g hg
  rcases h.2 with ⟨rfl, _⟩ | ⟨g', cap, cur, rfl, _, hgg, _⟩
  · simp [Value.ownBlock] at hg
  · simp [Value.ownBlock] at hg; subst hg; exact ⟨cur, hgg⟩
theorem ownS.block {w : World} {base : Nat} {v : Value} {l : List (List UInt8)} (h : ownS w base v l) : ∀ g, v.ownBlock = some g → ∃ cs, w.heap[g]? = some (.cells cs 9 (0, 0)) := by
  intro g hg
  rcases h.2 with ⟨rfl, _⟩ | ⟨g', cap, cur, rfl, _, hgg, _⟩
  · simp [Value.ownBlock] at hg
  · simp [Value.ownBlock] at hg; subst hg; exact ⟨cur, hgg⟩
theorem ownS.mono {w : World} {b b' : Nat} {v : Value} {l : List (List UInt8)} (h : ownS w b v l) (hb : b' ≤ b) : ownS w b' v l := by
  refine ⟨h.1, ?_⟩
  rcases h.2 with hn | ⟨g, cap, cur, rfl, hb2, rest⟩
  · exact .inl hn
  · exact .inr ⟨g, cap, cur, rfl, Nat.le_trans hb hb2, rest⟩

/-! A row of bytes that is read. -/
def bytesAt (w : World) (x : Value) (l : List UInt8) : Prop :=
  ∃ g cap cs fr, x = .slice (some ⟨g, 0, none⟩) l.length cap ∧ w.heap[g]? = some (.cells cs 5 fr) ∧ ∀ j (h : j < l.length), cs[j]? = some (.int .u8 (l[j].toNat : Int))
theorem bytesAt.kept {w w' : World} {x : Value} {l : List UInt8} (h : bytesAt w x l) (hk : ∀ g, x.ownBlock = some g → w'.heap[g]? = w.heap[g]?) : bytesAt w' x l := by
  obtain ⟨g, cap, cs, fr, rfl, hg, hc⟩ := h
  exact ⟨g, cap, cs, fr, rfl, by rw [hk g rfl]; exact hg, hc⟩
theorem bytesAt.lt {w : World} {x : Value} {l : List UInt8} (h : bytesAt w x l) : ∀ g, x.ownBlock = some g → g < w.heap.size := by
  obtain ⟨g, cap, cs, fr, rfl, hg, hc⟩ := h
  intro k hk
  simp [Value.ownBlock] at hk; subst hk
  exact (Array.getElem?_eq_some_iff.1 hg).1
theorem bytesAt.block {w : World} {x : Value} {l : List UInt8} (h : bytesAt w x l) : ∀ g, x.ownBlock = some g → ∃ cs fr, w.heap[g]? = some (.cells cs 5 fr) := by
  obtain ⟨g, cap, cs, fr, rfl, hg, hc⟩ := h
  intro k hk
  simp [Value.ownBlock] at hk; subst hk
  exact ⟨cs, fr, hg⟩

/-! What a call leaves alone. -/
/-- All blocks of w but those of S are in w' as they were. -/
structure Kept (S : Nat → Prop) (w w' : World) : Prop where
  os : w'.os = w.os
  tape : w'.tape = w.tape
  output : w'.output = w.output
  size : w.heap.size ≤ w'.heap.size
  block : ∀ k, k < w.heap.size → ¬ S k → w'.heap[k]? = w.heap[k]?
theorem Kept.refl (S : Nat → Prop) (w : World) : Kept S w w := ⟨rfl, rfl, rfl, Nat.le_refl _, fun _ _ _ => rfl⟩
theorem Kept.trans {S T : Nat → Prop} {a b c : World} (h : Kept S a b) (k : Kept T b c) (hST : ∀ i, i < a.heap.size → T i → S i) : Kept S a c :=
  ⟨k.os.trans h.os, k.tape.trans h.tape, k.output.trans h.output, Nat.le_trans h.size k.size,
    fun i hi hs => (k.block i (Nat.lt_of_lt_of_le hi h.size) (fun ht => hs (hST i hi ht))).trans (h.block i hi hs)⟩
theorem Kept.alloc {S : Nat → Prop} {a w : World} (h : Kept S a w) (o : Obj) : Kept S a (w.alloc o) :=
  h.trans (T := fun _ => False) ⟨rfl, rfl, rfl, by simp, fun k hk _ => Below.heap_alloc _ _ _ hk⟩ (fun _ _ h => h.elim)
theorem Kept.setCell {S : Nat → Prop} {a w : World} (h : Kept S a w) (p : Addr) (u : Value) (hp : p.block < a.heap.size → S p.block) : Kept S a (w.setCell p u) :=
  h.trans (T := fun k => k = p.block) ⟨rfl, rfl, rfl, by simp [World.setCell], fun k _ hne => Below.heap_setCell _ _ _ _ hne⟩ (fun i hi e => by subst e; exact hp hi)
theorem Kept.grown {S : Nat → Prop} {a w w' : World} {row : Option Nat} (h : Kept S a w) (hg : w.grownBy w' row) (hr : ∀ k, row = some k → k < a.heap.size → S k) : Kept S a w' :=
  h.trans (T := fun k => some k = row) ⟨hg.os, hg.tape, hg.output, hg.size, fun k hk hne => hg.block k hk hne⟩ (fun i hi e => hr i e.symm hi)
theorem Kept.below {S : Nat → Prop} {B : Nat} {w w' : World} (h : Kept S w w') (hB : B ≤ w.heap.size) (hS : ∀ k, S k → B ≤ k) : Below B w w' :=
  ⟨h.os, h.tape, h.output, h.size, fun k hk => h.block k (by omega) (fun hs => by have := hS k hs; omega)⟩
theorem Kept.of_below {S : Nat → Prop} {B : Nat} {w w' : World} (h : Below B w w') (hB : w.heap.size ≤ B) : Kept S w w' :=
  ⟨h.os, h.tape, h.output, h.size, fun k hk _ => h.block k (by omega)⟩
theorem Kept.drewN {S : Nat → Prop} {a w : World} (h : Kept S a w) (n : Nat) : Kept S a (w.drewN n) := ⟨h.os, h.tape, h.output, h.size, h.block⟩
theorem Kept.drew {S : Nat → Prop} {a w : World} (h : Kept S a w) : Kept S a w.drew := ⟨h.os, h.tape, h.output, h.size, h.block⟩

/-! A splitter. -/
/-- In block K lies a splitter with the limit lim, whose open word, in v, is o; b: a word was too long. -/
def Spl (w : World) (base K lim : Nat) (v : Value) (o : List UInt8) (b : Bool) : Prop :=
  base ≤ K ∧ w.heap[K]? = some (.cells #[.int .i64 lim, v, .bool b] 44 (0, 0)) ∧ ownB w base 5 v o
/-- The blocks of a splitter. -/
def mine (K : Nat) (v : Value) (k : Nat) : Prop := k = K ∨ some k = v.ownBlock
def Moved (v v' : Value) (n : Nat) : Prop := v'.ownBlock = v.ownBlock ∨ ∀ g, v'.ownBlock = some g → n ≤ g
theorem Moved.refl (v : Value) (n : Nat) : Moved v v n := .inl rfl
theorem Moved.trans {a b c : Value} {n m : Nat} (h : Moved a b n) (k : Moved b c m) (hm : n ≤ m) : Moved a c n := by
  rcases k with k | k
  · rcases h with h | h
    · exact .inl (k.trans h)
    · exact .inr fun g hg => h g (by rw [← k]; exact hg)
  · exact .inr fun g hg => Nat.le_trans hm (k g hg)
theorem mine_moved {K : Nat} {v v' : Value} {n i : Nat} (h : Moved v v' n) (hi : i < n) (hm : mine K v' i) : mine K v i := by
  rcases hm with hm | hm
  · exact .inl hm
  · rcases h with h | h
    · exact .inr (by rw [hm, h])
    · have := h i hm.symm; omega
theorem Spl.cells {w : World} {base K lim : Nat} {v : Value} {o : List UInt8} {b : Bool} (h : Spl w base K lim v o b) :
    w.cell? ⟨K, 0, none⟩ = some (.int .i64 lim) ∧ w.cell? ⟨K, 1, none⟩ = some v ∧ w.cell? ⟨K, 2, none⟩ = some (.bool b) ∧ w.frozen? ⟨K, 0, none⟩ = false ∧ w.frozen? ⟨K, 1, none⟩ = false ∧ w.frozen? ⟨K, 2, none⟩ = false := by
  obtain ⟨_, h, _⟩ := h
  refine ⟨?_, ?_, ?_, ?_, ?_, ?_⟩
  · rw [cell_of_row w K 0 _ 44 (0, 0) h]; rfl
  · rw [cell_of_row w K 1 _ 44 (0, 0) h]; rfl
  · rw [cell_of_row w K 2 _ 44 (0, 0) h]; rfl
  all_goals (unfold World.frozen?; rw [h]; simp)
theorem Spl.lt {w : World} {base K lim : Nat} {v : Value} {o : List UInt8} {b : Bool} (h : Spl w base K lim v o b) : K < w.heap.size := (Array.getElem?_eq_some_iff.1 h.2.1).1
theorem Spl.mine_ge {w : World} {base K lim : Nat} {v : Value} {o : List UInt8} {b : Bool} (h : Spl w base K lim v o b) : ∀ k, mine K v k → base ≤ k := by
  intro k hk
  rcases hk with rfl | hk
  · exact h.1
  · exact (ownB.lt h.2.2 k hk.symm).1
theorem Spl.mine_lt {w : World} {base K lim : Nat} {v : Value} {o : List UInt8} {b : Bool} (h : Spl w base K lim v o b) : ∀ k, mine K v k → k < w.heap.size := by
  intro k hk
  rcases hk with rfl | hk
  · exact h.lt
  · exact (ownB.lt h.2.2 k hk.symm).2
theorem Spl.ne {w : World} {base K lim : Nat} {v : Value} {o : List UInt8} {b : Bool} (h : Spl w base K lim v o b) : some K ≠ v.ownBlock := by
  intro e
  obtain ⟨cs, hc⟩ := ownB.block h.2.2 K e.symm
  rw [h.2.1] at hc
  cases hc
theorem Spl.kept {w w' : World} {base K lim : Nat} {v : Value} {o : List UInt8} {b : Bool} (h : Spl w base K lim v o b) (hk : ∀ k, mine K v k → w'.heap[k]? = w.heap[k]?) : Spl w' base K lim v o b :=
  ⟨h.1, by rw [hk K (.inl rfl)]; exact h.2.1, ownB.kept h.2.2 fun g hg => hk g (.inr hg.symm)⟩
/-- A cell of an owned block's own, written. -/
theorem heap_setCell_at {w : World} {K i : Nat} {cs : Array Value} {t : TypeId} {fr : Nat × Nat} (h : w.heap[K]? = some (.cells cs t fr)) (u : Value) : (w.setCell ⟨K, i, none⟩ u).heap[K]? = some (.cells (cs.setIfInBounds i u) t fr) := by
  rw [setCell_eq_setRow w K i cs t fr u h]
  exact setRow_heap w K cs _ t _ h
/-- The open word's field written: a new one. -/
theorem Spl.store {w : World} {base K lim : Nat} {v v' : Value} {o o' : List UInt8} {b : Bool} (h : Spl w base K lim v o b) (hv : ownB w base 5 v' o') : Spl (w.setCell ⟨K, 1, none⟩ v') base K lim v' o' b := by
  refine ⟨h.1, ?_, ?_⟩
  · rw [heap_setCell_at h.2.1]; rfl
  · refine ownB.kept hv fun g hg => Below.heap_setCell _ _ _ _ ?_
    intro e
    obtain ⟨cs, hc⟩ := ownB.block hv g hg
    have e' : g = K := e
    rw [e', h.2.1] at hc
    cases hc
theorem Spl.fail {w : World} {base K lim : Nat} {v : Value} {o : List UInt8} {b b' : Bool} (h : Spl w base K lim v o b) : Spl (w.setCell ⟨K, 2, none⟩ (.bool b')) base K lim v o b' := by
  refine ⟨h.1, ?_, ?_⟩
  · rw [heap_setCell_at h.2.1]; rfl
  · refine ownB.kept h.2.2 fun g hg => Below.heap_setCell _ _ _ _ ?_
    intro e
    have e' : g = K := e
    exact h.ne (by rw [← e', hg])
/-- An emptied row is owned, too. -/
theorem ownB.cut {w : World} {base g n cap : Nat} {e : TypeId} {l : List UInt8} (h : ownB w base e (.slice (some ⟨g, 0, none⟩) n cap) l) : ownB w base e (.slice (some ⟨g, 0, none⟩) 0 cap) [] := by
  refine ⟨rfl, .inr ?_⟩
  rcases h.2 with ⟨h0, _⟩ | ⟨g', cap', cur, hv, hb, hg, h1, h2, h3, h4⟩
  · cases h0
  · cases hv
    exact ⟨g, cap, cur, rfl, hb, hg, Nat.zero_le _, h2, h3, by simp [bcells]⟩
end Go.Proofs.Ytkkpjbhnakbipaa
