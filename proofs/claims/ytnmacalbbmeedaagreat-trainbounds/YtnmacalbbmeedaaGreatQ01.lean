/- Texts in one: Bytes, Mem, Nums. -/
import Derived.WalkKit
import Derived.Deep.AppendLies
import Derived.Laws.IdiomStrings
import Derived.Lib.OthersKept
import Derived.WalkSmall
import Derived.Test.YtnmacalbbmeedaaGreatRows
import Derived.Lib.Hide
import Derived.Lib.Builder
import Derived.Lib.SlBytesConst
import Derived.Laws.CopyOwn
import Derived.Laws.AppendOwnNone
import Derived.BigQuiet
import Derived.Deep.Slices
import Derived.OpenShut
/- Words for byte rows that a call makes itself: what they hold, and their text. -/
namespace Go.Proofs.YtnmacalbbmeedaaGreat
open Go.RowKit

/-- The cells of a list of bytes. -/
def bcells (l : List UInt8) : List Value := l.map fun b => Value.int .u8 (b.toNat : Int)
/-- The slice value v owns the bytes l. -/
def ownB (w : World) (base : Nat) (e : TypeId) (v : Value) (l : List UInt8) : Prop := w.ownsRow base e 1 v l.length (bcells l)

set_option maxRecDepth 100000 in
theorem ownB.text {P : Program} {w : World} {base : Nat} {e : TypeId} {v : Value} {l : List UInt8} (h : ownB w base e v l) (src dst : TypeId) (hs : P.underlying src = some (.slice e)) (he : P.underlying e = some (.int .u8)) (hd : P.underlying dst = some .string) :
    (convert src dst v).run P w = .ok (.string ⟨l.toArray⟩) w := by
  rcases h.2 with ⟨rfl, h0⟩ | ⟨g, cap, cur, rfl, hb, hg, h1, h2, h3, h4⟩
  · have hl : l = [] := List.eq_nil_of_length_eq_zero h0
    subst hl
    rw [run_convert_bytes_string w src dst e none 0 0 hs he hd]
    simp [Conv.bytesToString, Sem.run_pure]
    rfl
  · refine run_convert_bytes_back w src dst e _ cap l hs he hd fun j hj => ?_
    have hx : (bcells l)[j]? = some (.int .u8 (l[j].toNat : Int)) := by simp [bcells, List.getElem?_eq_getElem hj]
    have hadd : (⟨g, 0, none⟩ : Addr).add j = ⟨g, j, none⟩ := by unfold Addr.add; split <;> simp_all
    rw [hadd, cell_of_row w g j cur e (0, 0) hg, ← hx, ← h4, Nat.mul_one, List.getElem?_take_of_lt hj]
    simp
/-! Texts by lists. -/
set_option maxRecDepth 100000 in
theorem take_snoc (s : ByteArray) (k : Nat) (h : k < s.size) : s.data.toList.take (k + 1) = s.data.toList.take k ++ [s[k]] := by
  rw [List.take_succ_eq_append_getElem (by simpa using h)]; rfl
set_option maxRecDepth 100000 in
theorem ba_eq (s : ByteArray) : (⟨s.data.toList.toArray⟩ : ByteArray) = s := by cases s; simp
set_option maxRecDepth 100000 in
theorem size_toList (s : ByteArray) : s.data.toList.length = s.size := by rw [Array.length_toList]; rfl
set_option maxRecDepth 100000 in
theorem retI {k : IntKind} {a b : Int} (h : a = b) : Ending.returned (.int k a) = .returned (.int k b) := by rw [h]
set_option maxRecDepth 100000 in
theorem retB {p q : Bool} (h : p = q) : Ending.returned (.bool p) = .returned (.bool q) := by rw [h]
end Go.Proofs.YtnmacalbbmeedaaGreat
/- Memory words: rows of texts and of bytes, made or read, and what a call leaves alone. -/
namespace Go.Proofs.YtnmacalbbmeedaaGreat
open Go.RowKit

/-! Rows of texts. -/
def tx (l : List UInt8) : Value := .string ⟨l.toArray⟩
def scells (L : List (List UInt8)) : List Value := L.map tx
set_option maxRecDepth 100000 in
theorem scells_append (a b : List (List UInt8)) : scells (a ++ b) = scells a ++ scells b := by simp [scells]
/-- The slice value v owns the texts L. -/
def ownS (w : World) (base : Nat) (v : Value) (L : List (List UInt8)) : Prop := w.ownsRow base 9 1 v L.length (scells L)
/-- The slice value v reads as the texts L. -/
def strsAt (w : World) (v : Value) (L : List (List UInt8)) : Prop :=
  ∃ a cap, v = .slice a L.length cap ∧ ∀ j (h : j < L.length), ∃ ad, a = some ad ∧ w.cell? (ad.add j) = some (tx L[j])
set_option maxRecDepth 100000 in
theorem add_zero_off (g j : Nat) : (⟨g, 0, none⟩ : Addr).add j = ⟨g, j, none⟩ := by unfold Addr.add; split <;> simp_all
set_option maxRecDepth 100000 in
theorem ownS.reads {w : World} {base : Nat} {v : Value} {L : List (List UInt8)} (h : ownS w base v L) : strsAt w v L := by
  rcases h.2 with ⟨rfl, h0⟩ | ⟨g, cap, cur, rfl, hb, hg, h1, h2, h3, h4⟩
  · refine ⟨none, 0, by rw [h0], fun j hj => by omega⟩
  · refine ⟨_, cap, rfl, fun j hj => ⟨_, rfl, ?_⟩⟩
    rw [add_zero_off, cell_of_row w g j cur 9 (0, 0) hg]
    have hx : (scells L)[j]? = some (tx L[j]) := by simp [scells, List.getElem?_eq_getElem hj]
    rw [← hx, ← h4, Nat.mul_one, List.getElem?_take_of_lt hj]
    simp
set_option maxRecDepth 100000 in
theorem ownS.kept {w w' : World} {base : Nat} {v : Value} {L : List (List UInt8)} (h : ownS w base v L) (hk : ∀ g, v.ownBlock = some g → w'.heap[g]? = w.heap[g]?) : ownS w' base v L := by
  refine ⟨h.1, ?_⟩
  rcases h.2 with hn | ⟨g, cap, cur, rfl, hb, hgg, rest⟩
  · exact .inl hn
  · exact .inr ⟨g, cap, cur, rfl, hb, by rw [hk g rfl]; exact hgg, rest⟩
set_option maxRecDepth 100000 in
theorem ownB.kept {w w' : World} {base : Nat} {e : TypeId} {v : Value} {L : List UInt8} (h : ownB w base e v L) (hk : ∀ g, v.ownBlock = some g → w'.heap[g]? = w.heap[g]?) : ownB w' base e v L := by
  refine ⟨h.1, ?_⟩
  rcases h.2 with hn | ⟨g, cap, cur, rfl, hb, hgg, rest⟩
  · exact .inl hn
  · exact .inr ⟨g, cap, cur, rfl, hb, by rw [hk g rfl]; exact hgg, rest⟩
set_option maxRecDepth 100000 in
theorem ownB.form {w : World} {base : Nat} {e : TypeId} {v : Value} {l : List UInt8} (h : ownB w base e v l) : ∃ a cap, v = .slice a l.length cap := by
  rcases h.2 with ⟨rfl, h0⟩ | ⟨g, cap, cur, rfl, _⟩
  · exact ⟨none, 0, by rw [h0]⟩
  · exact ⟨_, cap, rfl⟩
set_option maxRecDepth 100000 in
theorem ownB.lt {w : World} {base : Nat} {e : TypeId} {v : Value} {l : List UInt8} (h : ownB w base e v l) : ∀ k, v.ownBlock = some k → base ≤ k ∧ k < w.heap.size := World.ownsRow.lt h
set_option maxRecDepth 100000 in
theorem ownS.lt {w : World} {base : Nat} {v : Value} {l : List (List UInt8)} (h : ownS w base v l) : ∀ k, v.ownBlock = some k → base ≤ k ∧ k < w.heap.size := World.ownsRow.lt h
set_option maxRecDepth 100000 in
theorem ownB.block {w : World} {base : Nat} {e : TypeId} {v : Value} {l : List UInt8} (h : ownB w base e v l) : ∀ g, v.ownBlock = some g → ∃ cs, w.heap[g]? = some (.cells cs e (0, 0)) := by
  intro g hg
  rcases h.2 with ⟨rfl, _⟩ | ⟨g', cap, cur, rfl, _, hgg, _⟩
  · simp [Value.ownBlock] at hg
  · simp [Value.ownBlock] at hg; subst hg; exact ⟨cur, hgg⟩
set_option maxRecDepth 100000 in
theorem ownS.block {w : World} {base : Nat} {v : Value} {l : List (List UInt8)} (h : ownS w base v l) : ∀ g, v.ownBlock = some g → ∃ cs, w.heap[g]? = some (.cells cs 9 (0, 0)) := by
  intro g hg
  rcases h.2 with ⟨rfl, _⟩ | ⟨g', cap, cur, rfl, _, hgg, _⟩
  · simp [Value.ownBlock] at hg
  · simp [Value.ownBlock] at hg; subst hg; exact ⟨cur, hgg⟩
set_option maxRecDepth 100000 in
theorem ownS.mono {w : World} {b b' : Nat} {v : Value} {l : List (List UInt8)} (h : ownS w b v l) (hb : b' ≤ b) : ownS w b' v l := by
  refine ⟨h.1, ?_⟩
  rcases h.2 with hn | ⟨g, cap, cur, rfl, hb2, rest⟩
  · exact .inl hn
  · exact .inr ⟨g, cap, cur, rfl, Nat.le_trans hb hb2, rest⟩

/-! A row of bytes that is read. -/
def bytesAt (w : World) (x : Value) (l : List UInt8) : Prop :=
  ∃ g cap cs fr, x = .slice (some ⟨g, 0, none⟩) l.length cap ∧ w.heap[g]? = some (.cells cs 5 fr) ∧ ∀ j (h : j < l.length), cs[j]? = some (.int .u8 (l[j].toNat : Int))
set_option maxRecDepth 100000 in
theorem bytesAt.kept {w w' : World} {x : Value} {l : List UInt8} (h : bytesAt w x l) (hk : ∀ g, x.ownBlock = some g → w'.heap[g]? = w.heap[g]?) : bytesAt w' x l := by
  obtain ⟨g, cap, cs, fr, rfl, hg, hc⟩ := h
  exact ⟨g, cap, cs, fr, rfl, by rw [hk g rfl]; exact hg, hc⟩
set_option maxRecDepth 100000 in
theorem bytesAt.lt {w : World} {x : Value} {l : List UInt8} (h : bytesAt w x l) : ∀ g, x.ownBlock = some g → g < w.heap.size := by
  obtain ⟨g, cap, cs, fr, rfl, hg, hc⟩ := h
  intro k hk
  simp [Value.ownBlock] at hk; subst hk
  exact (Array.getElem?_eq_some_iff.1 hg).1
set_option maxRecDepth 100000 in
theorem bytesAt.block {w : World} {x : Value} {l : List UInt8} (h : bytesAt w x l) : ∀ g, x.ownBlock = some g → ∃ cs fr, w.heap[g]? = some (.cells cs 5 fr) := by
  obtain ⟨g, cap, cs, fr, rfl, hg, hc⟩ := h
  intro k hk
  simp [Value.ownBlock] at hk; subst hk
  exact ⟨cs, fr, hg⟩

/-! What a call leaves alone. -/
/-- All blocks of w but those of S are in w' as they were. -/
structure Kept (S : Nat → Prop) (w w' : World) : Prop where
  os : w'.os = w.os
  tape : w'.tape = w.tape
  output : w'.output = w.output
  size : w.heap.size ≤ w'.heap.size
  block : ∀ k, k < w.heap.size → ¬ S k → w'.heap[k]? = w.heap[k]?
set_option maxRecDepth 100000 in
theorem Kept.refl (S : Nat → Prop) (w : World) : Kept S w w := ⟨rfl, rfl, rfl, Nat.le_refl _, fun _ _ _ => rfl⟩
set_option maxRecDepth 100000 in
theorem Kept.trans {S T : Nat → Prop} {a b c : World} (h : Kept S a b) (k : Kept T b c) (hST : ∀ i, i < a.heap.size → T i → S i) : Kept S a c :=
  ⟨k.os.trans h.os, k.tape.trans h.tape, k.output.trans h.output, Nat.le_trans h.size k.size,
    fun i hi hs => (k.block i (Nat.lt_of_lt_of_le hi h.size) (fun ht => hs (hST i hi ht))).trans (h.block i hi hs)⟩
set_option maxRecDepth 100000 in
theorem Kept.alloc {S : Nat → Prop} {a w : World} (h : Kept S a w) (o : Obj) : Kept S a (w.alloc o) :=
  h.trans (T := fun _ => False) ⟨rfl, rfl, rfl, by simp, fun k hk _ => Below.heap_alloc _ _ _ hk⟩ (fun _ _ h => h.elim)
set_option maxRecDepth 100000 in
theorem Kept.setCell {S : Nat → Prop} {a w : World} (h : Kept S a w) (p : Addr) (u : Value) (hp : p.block < a.heap.size → S p.block) : Kept S a (w.setCell p u) :=
  h.trans (T := fun k => k = p.block) ⟨rfl, rfl, rfl, by simp [World.setCell], fun k _ hne => Below.heap_setCell _ _ _ _ hne⟩ (fun i hi e => by subst e; exact hp hi)
set_option maxRecDepth 100000 in
theorem Kept.grown {S : Nat → Prop} {a w w' : World} {row : Option Nat} (h : Kept S a w) (hg : w.grownBy w' row) (hr : ∀ k, row = some k → k < a.heap.size → S k) : Kept S a w' :=
  h.trans (T := fun k => some k = row) ⟨hg.os, hg.tape, hg.output, hg.size, fun k hk hne => hg.block k hk hne⟩ (fun i hi e => hr i e.symm hi)
set_option maxRecDepth 100000 in
theorem Kept.below {S : Nat → Prop} {B : Nat} {w w' : World} (h : Kept S w w') (hB : B ≤ w.heap.size) (hS : ∀ k, S k → B ≤ k) : Below B w w' :=
  ⟨h.os, h.tape, h.output, h.size, fun k hk => h.block k (by omega) (fun hs => by have := hS k hs; omega)⟩
set_option maxRecDepth 100000 in
theorem Kept.of_below {S : Nat → Prop} {B : Nat} {w w' : World} (h : Below B w w') (hB : w.heap.size ≤ B) : Kept S w w' :=
  ⟨h.os, h.tape, h.output, h.size, fun k hk _ => h.block k (by omega)⟩
set_option maxRecDepth 100000 in
theorem Kept.drewN {S : Nat → Prop} {a w : World} (h : Kept S a w) (n : Nat) : Kept S a (w.drewN n) := ⟨h.os, h.tape, h.output, h.size, h.block⟩
set_option maxRecDepth 100000 in
theorem Kept.drew {S : Nat → Prop} {a w : World} (h : Kept S a w) : Kept S a w.drew := ⟨h.os, h.tape, h.output, h.size, h.block⟩

set_option maxRecDepth 100000 in
/-- A cell of an owned block's own, written. -/
theorem heap_setCell_at {w : World} {K i : Nat} {cs : Array Value} {t : TypeId} {fr : Nat × Nat} (h : w.heap[K]? = some (.cells cs t fr)) (u : Value) : (w.setCell ⟨K, i, none⟩ u).heap[K]? = some (.cells (cs.setIfInBounds i u) t fr) := by
  rw [setCell_eq_setRow w K i cs t fr u h]
  exact setRow_heap w K cs _ t _ h
set_option maxRecDepth 100000 in
/-- An emptied row is owned, too. -/
theorem ownB.cut {w : World} {base g n cap : Nat} {e : TypeId} {l : List UInt8} (h : ownB w base e (.slice (some ⟨g, 0, none⟩) n cap) l) : ownB w base e (.slice (some ⟨g, 0, none⟩) 0 cap) [] := by
  refine ⟨rfl, .inr ?_⟩
  rcases h.2 with ⟨h0, _⟩ | ⟨g', cap', cur, hv, hb, hg, h1, h2, h3, h4⟩
  · cases h0
  · cases hv
    exact ⟨g, cap, cur, rfl, hb, hg, Nat.zero_le _, h2, h3, by simp [bcells]⟩
set_option maxRecDepth 100000 in
theorem bcells_at (l : List UInt8) {j : Nat} {u : Value} (h : (bcells l)[j]? = some u) : ∃ hj : j < l.length, u = .int .u8 (l[j].toNat : Int) := by
  have hj : j < l.length := by have := (List.getElem?_eq_some_iff.1 h).1; simpa [bcells] using this
  refine ⟨hj, ?_⟩
  simp [bcells, List.getElem?_eq_getElem hj] at h
  exact h.symm
set_option maxRecDepth 100000 in
theorem ownB.src {w : World} {base g n cap : Nat} {e : TypeId} {l : List UInt8} (h : ownB w base e (.slice (some ⟨g, 0, none⟩) n cap) l) : ∀ j u, (bcells l)[j]? = some u → w.cell? ((⟨g, 0, none⟩ : Addr).add j) = some u := by
  intro j u hu
  rcases h.2 with ⟨h0, _⟩ | ⟨g', cap', cur, hv, hb, hg, h1, h2, h3, h4⟩
  · cases h0
  · cases hv
    have hj : j < l.length := by have := (List.getElem?_eq_some_iff.1 hu).1; simpa [bcells] using this
    rw [add_zero_off, cell_of_row w g j cur e (0, 0) hg, ← hu, ← h4, Nat.mul_one, List.getElem?_take_of_lt hj]
    simp
/-- The bytes of a text. -/
abbrev bs (s : ByteArray) : List UInt8 := s.data.toList

set_option maxRecDepth 100000 in
theorem extract_bs (s : ByteArray) (a b : Nat) : s.extract a b = ⟨(((bs s).drop a).take (b - a)).toArray⟩ := by
  have := ByteArray.extract_mk (bs s) a b
  rwa [ba_eq] at this
set_option maxRecDepth 100000 in
/-- Texts appended to texts. -/
theorem ownS.app {w2 : World} {b : Nat} {r : Value} {A B : List (List UInt8)} {n : Nat} (h : w2.ownsRow b 9 1 r (A.length + n) (scells A ++ scells B)) (hn : n = B.length) : ownS w2 b r (A ++ B) := by
  unfold ownS; rw [List.length_append, scells_append, ← hn]; exact h
set_option maxRecDepth 100000 in
theorem ownS.form {w : World} {b : Nat} {r : Value} {A : List (List UInt8)} (h : ownS w b r A) : (r = .slice none 0 0 ∧ A = []) ∨ (∃ g cap, r = .slice (some ⟨g, 0, none⟩) A.length cap ∧ b ≤ g ∧ g < w.heap.size) := by
  rcases h.2 with ⟨rfl, h0⟩ | ⟨g, cap, cur, rfl, hb, hg, _⟩
  · exact .inl ⟨rfl, List.eq_nil_of_length_eq_zero h0⟩
  · exact .inr ⟨g, cap, rfl, hb, (Array.getElem?_eq_some_iff.1 hg).1⟩
set_option maxRecDepth 100000 in
theorem ownS.src {w : World} {b g cap : Nat} {A : List (List UInt8)} (h : ownS w b (.slice (some ⟨g, 0, none⟩) A.length cap) A) : ∀ j u, (scells A)[j]? = some u → w.cell? ((⟨g, 0, none⟩ : Addr).add j) = some u := by
  intro j u hu
  rcases h.2 with ⟨h0, _⟩ | ⟨g', cap', cur, hv, hb, hg, h1, h2, h3, h4⟩
  · cases h0
  · cases hv
    have hj : j < A.length := by have := (List.getElem?_eq_some_iff.1 hu).1; simpa [scells] using this
    rw [add_zero_off, cell_of_row w g j cur 9 (0, 0) hg, ← hu, ← h4, Nat.mul_one, List.getElem?_take_of_lt hj]
    simp
set_option maxRecDepth 100000 in
theorem lit_bytes (w : World) (l : List UInt8) (n : Nat) (fr : Nat × Nat) (hn : n = l.length) : bytesAt (w.alloc (.cells (bcells l).toArray 5 fr)) (.slice (some ⟨w.heap.size, 0, none⟩) n n) l := by
  subst hn
  refine ⟨w.heap.size, _, (bcells l).toArray, fr, rfl, heap_alloc_new w _, fun j hj => ?_⟩
  simp [bcells, List.getElem?_eq_getElem hj]
set_option maxRecDepth 100000 in
theorem strsAt.kept {w w' : World} {v : Value} {L : List (List UInt8)} (h : strsAt w v L) (hk : ∀ a n c, v = .slice (some a) n c → w'.heap[a.block]? = w.heap[a.block]?) : strsAt w' v L := by
  obtain ⟨a, cap, rfl, hc⟩ := h
  refine ⟨a, cap, rfl, fun j hj => ?_⟩
  obtain ⟨ad, rfl, hc'⟩ := hc j hj
  refine ⟨ad, rfl, ?_⟩
  rw [← hc']
  have hb : (ad.add j).block = ad.block := by unfold Addr.add; split <;> rfl
  exact World.cell?_of_block (by rw [hb]; exact hk ad _ _ rfl)

set_option maxRecDepth 100000 in
theorem below_drewN' {B : Nat} {a w : World} (h : Below B a w) (n : Nat) : Below B a (w.drewN n) := ⟨h.os, h.tape, h.output, h.size, h.block⟩
set_option maxRecDepth 100000 in
theorem Below.kept {B : Nat} {S : Nat → Prop} {a w w' : World} (h : Below B a w) (k : Kept S w w') (hS : ∀ i, S i → B ≤ i) (hB : B ≤ w.heap.size) : Below B a w' := h.trans (k.below hB hS)
set_option maxRecDepth 100000 in
theorem ownS.below {w w' : World} {b B : Nat} {v : Value} {L : List (List UInt8)} (h : ownS w b v L) (hb : Below B w w') (hB : w.heap.size ≤ B) : ownS w' b v L :=
  h.kept fun g hg => hb.block g (Nat.lt_of_lt_of_le (h.lt g hg).2 hB)

/-- Block g is a row of n bytes at least that may be written. -/
def rowOk (w : World) (g n : Nat) : Prop := ∃ cs fr, w.heap[g]? = some (.cells cs 5 fr) ∧ n ≤ cs.size ∧ n ≤ fr.1
set_option maxRecDepth 100000 in
theorem rowOk.cells {w : World} {g n j : Nat} (h : rowOk w g n) (hj : j < n) : (∃ u, w.cell? ⟨g, j, none⟩ = some u) ∧ w.frozen? ⟨g, j, none⟩ = false := by
  obtain ⟨cs, fr, hg, h1, h2⟩ := h
  refine ⟨⟨cs[j], ?_⟩, ?_⟩
  · rw [cell_of_row w g j cs 5 fr hg, Array.getElem?_eq_getElem (by omega)]
  · unfold World.frozen?; rw [hg]; simp; omega
set_option maxRecDepth 100000 in
theorem rowOk.store {w : World} {g n : Nat} (h : rowOk w g n) (j : Nat) (u : Value) : rowOk (w.setCell ⟨g, j, none⟩ u) g n := by
  obtain ⟨cs, fr, hg, h1, h2⟩ := h
  exact ⟨_, fr, heap_setCell_at hg u, by simpa using h1, h2⟩
set_option maxRecDepth 100000 in
theorem rowOk.kept {w w' : World} {g n : Nat} (h : rowOk w g n) (hk : w'.heap[g]? = w.heap[g]?) : rowOk w' g n := by
  obtain ⟨cs, fr, hg, h1, h2⟩ := h
  exact ⟨cs, fr, hk.trans hg, h1, h2⟩
set_option maxRecDepth 100000 in
theorem ownS.row {w w1 : World} {b g : Nat} {u : Value} {n : Nat} {L : List (List UInt8)} (h : ownS w b u L) (hr : rowOk w g n) (hk : Kept (fun k => k = g) w w1) : ownS w1 b u L := by
  refine h.kept fun i hi => hk.block i (h.lt i hi).2 ?_
  rintro rfl
  obtain ⟨cs, hc⟩ := h.block i hi
  obtain ⟨cs2, fr, hc2, _⟩ := hr
  rw [hc] at hc2; cases hc2
set_option maxRecDepth 100000 in
theorem take_mid (s : ByteArray) {f t : Nat} (hft : f ≤ t) : (bs s).take t = (bs s).take f ++ ((bs s).drop f).take (t - f) := by
  have := List.take_append_drop f ((bs s).take t)
  rw [List.take_take, Nat.min_eq_left hft, List.drop_take] at this
  exact this.symm

set_option maxRecDepth 100000 in
theorem cut_mid (s : ByteArray) (f t : Nat) (T : Int) (hT : T = (t : Int)) (h1 : f < t) (h2 : t ≤ s.size) : ∃ y : ByteArray, (∀ w, (Instr.slice 9 (.string s) (some (.int .i64 (f : Int))) (some (.int .i64 T)) none).run Tryz.prog w = .ok (.string y) w) ∧
    (bs s).take t = (bs s).take f ++ bs y ∧ y.size = t - f := by
  subst hT
  refine ⟨s.extract f t, fun w => ?_, ?_, ?_⟩
  · rw [run_slice_string w 9 s .i64 .i64 f t Tryz.underlying9 (by omega) (by omega) (by omega)]
    simp only [Int.toNat_natCast]
  · rw [extract_bs, take_mid s (Nat.le_of_lt h1)]
  · rw [ByteArray.size_extract]; omega

set_option maxRecDepth 100000 in
theorem add_zero_any (a : Addr) : a.add 0 = a := by unfold Addr.add; split <;> simp_all
set_option maxRecDepth 100000 in
theorem add_add_any (a : Addr) (i j : Nat) : (a.add i).add j = a.add (i + j) := Deep.add_add a i j
set_option maxRecDepth 100000 in
theorem strsAt.below {w w' : World} {v : Value} {L : List (List UInt8)} (h : strsAt w v L) (hb : Below w.heap.size w w') : strsAt w' v L := by
  obtain ⟨a, cap, rfl, hc⟩ := h
  refine ⟨a, cap, rfl, fun j hj => ?_⟩
  obtain ⟨ad, rfl, hc'⟩ := hc j hj
  exact ⟨ad, rfl, (hb.cell (World.block_lt_of_cell? w _ hc')).trans hc'⟩
/-- The blocks of a splitter. -/
def mine (K : Nat) (v : Value) (k : Nat) : Prop := k = K ∨ some k = v.ownBlock
def Moved (v v' : Value) (n : Nat) : Prop := v'.ownBlock = v.ownBlock ∨ ∀ g, v'.ownBlock = some g → n ≤ g
set_option maxRecDepth 100000 in
theorem Moved.refl (v : Value) (n : Nat) : Moved v v n := .inl rfl
set_option maxRecDepth 100000 in
theorem Moved.trans {a b c : Value} {n m : Nat} (h : Moved a b n) (k : Moved b c m) (hm : n ≤ m) : Moved a c n := by
  rcases k with k | k
  · rcases h with h | h
    · exact .inl (k.trans h)
    · exact .inr fun g hg => h g (by rw [← k]; exact hg)
  · exact .inr fun g hg => Nat.le_trans hm (k g hg)
set_option maxRecDepth 100000 in
theorem bytesAt.src {w : World} {g n cap : Nat} {l : List UInt8} (h : bytesAt w (.slice (some ⟨g, 0, none⟩) n cap) l) : ∀ j u, (bcells l)[j]? = some u → w.cell? ((⟨g, 0, none⟩ : Addr).add j) = some u := by
  intro j u hu
  obtain ⟨hj, rfl⟩ := bcells_at l hu
  obtain ⟨g', cap', cs, fr, e, hg, hc⟩ := h
  cases e
  rw [add_zero_off, cell_of_row w g j cs 5 fr hg, hc j hj]
set_option maxRecDepth 100000 in
theorem some_text {x : ByteArray} (h : bs x ≠ []) : x.toList.isEmpty = false := by
  rw [ByteArray.toList_eq]
  cases hl : x.data.toList with
  | nil => exact absurd hl h
  | cons _ _ => rfl
set_option maxRecDepth 100000 in
theorem bs_size (t : ByteArray) : (bs t).length = t.size := size_toList t
set_option maxRecDepth 100000 in
theorem bytesAt.text {w : World} {x : Value} {l : List UInt8} (h : bytesAt w x l) : (convert 156 9 x).run Tryz.prog w = .ok (.string ⟨l.toArray⟩) w := by
  obtain ⟨g, cap, cs, fr, rfl, hg, hc⟩ := h
  refine run_convert_bytes_back w 156 9 5 _ cap l Tryz.underlying156 Tryz.underlying5 Tryz.underlying9 fun j hj => ?_
  rw [add_zero_off, cell_of_row w g j cs 5 fr hg, hc j hj]
/-- Block g is a row of n texts at least that may be written. -/
def rowS (w : World) (g n : Nat) : Prop := ∃ cs, w.heap[g]? = some (.cells cs 9 (0, 0)) ∧ n ≤ cs.size
set_option maxRecDepth 100000 in
theorem rowS.cells {w : World} {g n j : Nat} (h : rowS w g n) (hj : j < n) : (∃ u, w.cell? ⟨g, j, none⟩ = some u) ∧ w.frozen? ⟨g, j, none⟩ = false := by
  obtain ⟨cs, hg, h1⟩ := h
  refine ⟨⟨cs[j], ?_⟩, Lib.frozen_of_heap hg j⟩
  rw [cell_of_row w g j cs 9 (0, 0) hg, Array.getElem?_eq_getElem (by omega)]
set_option maxRecDepth 100000 in
theorem rowS.store {w : World} {g n : Nat} (h : rowS w g n) (j : Nat) (u : Value) : rowS (w.setCell ⟨g, j, none⟩ u) g n := by
  obtain ⟨cs, hg, h1⟩ := h
  exact ⟨_, heap_setCell_at hg u, by simpa using h1⟩
set_option maxRecDepth 100000 in
theorem rowS.kept {w w' : World} {g n : Nat} (h : rowS w g n) (hk : w'.heap[g]? = w.heap[g]?) : rowS w' g n := by
  obtain ⟨cs, hg, h1⟩ := h
  exact ⟨cs, hk.trans hg, h1⟩
end Go.Proofs.YtnmacalbbmeedaaGreat
/- Sums and products that are looked at, as plain numbers. -/
namespace Go.Proofs.YtnmacalbbmeedaaGreat

/-- The sum of two, if all is within. -/
def addOf (a b : Int) : Int × Bool := if 0 ≤ a ∧ 0 ≤ b ∧ a + b ≤ 9223372036854775807 then (a + b, true) else (0, false)
/-- The product of two, if all is within. -/
def mulOf (a b : Int) : Int × Bool := if 0 ≤ a ∧ 0 ≤ b ∧ a * b ≤ 9223372036854775807 then (a * b, true) else (0, false)
set_option maxRecDepth 100000 in
theorem addOf_yes {a b : Int} (ha : 0 ≤ a) (hb : 0 ≤ b) (h : a + b ≤ 9223372036854775807) : addOf a b = (a + b, true) := if_pos ⟨ha, hb, h⟩
set_option maxRecDepth 100000 in
theorem addOf_no {a b : Int} (h : ¬ (0 ≤ a ∧ 0 ≤ b ∧ a + b ≤ 9223372036854775807)) : addOf a b = (0, false) := if_neg h
set_option maxRecDepth 100000 in
theorem mulOf_yes {a b : Int} (ha : 0 ≤ a) (hb : 0 ≤ b) (h : a * b ≤ 9223372036854775807) : mulOf a b = (a * b, true) := if_pos ⟨ha, hb, h⟩
set_option maxRecDepth 100000 in
theorem mulOf_no {a b : Int} (h : ¬ (0 ≤ a ∧ 0 ≤ b ∧ a * b ≤ 9223372036854775807)) : mulOf a b = (0, false) := if_neg h
set_option maxRecDepth 100000 in
theorem addOf_in (a b : Int) : 0 ≤ (addOf a b).1 ∧ (addOf a b).1 ≤ 9223372036854775807 := by
  unfold addOf
  split
  · exact ⟨by simp only; omega, by simp only; omega⟩
  · exact ⟨by simp, by simp⟩
set_option maxRecDepth 100000 in
theorem mulOf_in (a b : Int) : 0 ≤ (mulOf a b).1 ∧ (mulOf a b).1 ≤ 9223372036854775807 := by
  unfold mulOf
  split
  · rename_i h; exact ⟨Int.mul_nonneg h.1 h.2.1, h.2.2⟩
  · exact ⟨by simp, by simp⟩
/-- The sum of the products, going on from t. -/
def dotFrom (t : Int) : List Int → List Int → Int × Bool
  | a :: A, b :: B => bif (mulOf a b).2 then (bif (addOf t (mulOf a b).1).2 then dotFrom (addOf t (mulOf a b).1).1 A B else (0, false)) else (0, false)
  | [], [] => (t, true)
  | _, _ => (0, false)
end Go.Proofs.YtnmacalbbmeedaaGreat
