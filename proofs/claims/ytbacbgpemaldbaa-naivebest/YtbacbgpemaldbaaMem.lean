/- Memory words: rows of texts and of bytes, made or read, and what a call leaves alone. -/
import Derived.Test.YtbacbgpemaldbaaRows
import Derived.Test.YtbacbgpemaldbaaBytes
import Derived.Lib.Hide
import Derived.Lib.Builder
import Derived.Lib.SlBytesConst
import Derived.Laws.CopyOwn
import Derived.Laws.AppendOwnNone
import Derived.BigQuiet
import Derived.Deep.Slices
import Derived.OpenShut
namespace Go.Proofs.Ytbacbgpemaldbaa
open Go.RowKit

set_option maxRecDepth 100000 in
theorem Try.info5 : (Try.prog.info? 5).map (fun i => (i.zero, i.size, i.bytes)) = some (some (.int .u8 0), 1, 1) := by kernel_rfl
set_option maxRecDepth 100000 in
theorem Try.info9 : (Try.prog.info? 9).map (fun i => (i.zero, i.size, i.bytes)) = some (some (.string ⟨#[]⟩), 1, 16) := by kernel_rfl
/-! Rows of texts. -/
def tx (l : List UInt8) : Value := .string ⟨l.toArray⟩
def scells (L : List (List UInt8)) : List Value := L.map tx
set_option maxRecDepth 100000 in
theorem scells_len (L : List (List UInt8)) : (scells L).length = L.length := by simp [scells]
set_option maxRecDepth 100000 in
theorem scells_append (a b : List (List UInt8)) : scells (a ++ b) = scells a ++ scells b := by simp [scells]
set_option maxRecDepth 100000 in
theorem scells_one (L : List (List UInt8)) : ∀ u ∈ scells L, u.oneCell' = true := by
  intro u hu
  simp only [scells, List.mem_map] at hu
  obtain ⟨b, _, rfl⟩ := hu
  rfl
/-- The slice value v owns the texts L. -/
def ownS (w : World) (base : Nat) (v : Value) (L : List (List UInt8)) : Prop := w.ownsRow base 9 1 v L.length (scells L)
/-- The slice value v reads as the texts L. -/
def strsAt (w : World) (v : Value) (L : List (List UInt8)) : Prop :=
  ∃ a cap, v = .slice a L.length cap ∧ ∀ j (h : j < L.length), ∃ ad, a = some ad ∧ w.cell? (ad.add j) = some (tx L[j])
set_option maxRecDepth 100000 in
theorem add_zero_off (g j : Nat) : (⟨g, 0, none⟩ : Addr).add j = ⟨g, j, none⟩ := by unfold Addr.add; split <;> simp_all
set_option maxRecDepth 100000 in
theorem ownS.reads {w : World} {base : Nat} {v : Value} {L : List (List UInt8)} (h : ownS w base v L) : strsAt w v L := by
  rcases h.2 with ⟨rfl, h0⟩ | ⟨g, cap, cur, rfl, hb, hg, h1, h2, h3, h4⟩
  · refine ⟨none, 0, by rw [h0], fun j hj => by omega⟩
  · refine ⟨_, cap, rfl, fun j hj => ⟨_, rfl, ?_⟩⟩
    rw [add_zero_off, cell_of_row w g j cur 9 (0, 0) hg]
    have hx : (scells L)[j]? = some (tx L[j]) := by simp [scells, List.getElem?_eq_getElem hj]
    rw [← hx, ← h4, Nat.mul_one, List.getElem?_take_of_lt hj]
    simp
set_option maxRecDepth 100000 in
theorem ownS.kept {w w' : World} {base : Nat} {v : Value} {L : List (List UInt8)} (h : ownS w base v L) (hk : ∀ g, v.ownBlock = some g → w'.heap[g]? = w.heap[g]?) : ownS w' base v L := by
  refine ⟨h.1, ?_⟩
  rcases h.2 with hn | ⟨g, cap, cur, rfl, hb, hgg, rest⟩
  · exact .inl hn
  · exact .inr ⟨g, cap, cur, rfl, hb, by rw [hk g rfl]; exact hgg, rest⟩
set_option maxRecDepth 100000 in
theorem ownB.kept {w w' : World} {base : Nat} {e : TypeId} {v : Value} {L : List UInt8} (h : ownB w base e v L) (hk : ∀ g, v.ownBlock = some g → w'.heap[g]? = w.heap[g]?) : ownB w' base e v L := by
  refine ⟨h.1, ?_⟩
  rcases h.2 with hn | ⟨g, cap, cur, rfl, hb, hgg, rest⟩
  · exact .inl hn
  · exact .inr ⟨g, cap, cur, rfl, hb, by rw [hk g rfl]; exact hgg, rest⟩
set_option maxRecDepth 100000 in
theorem ownB.form {w : World} {base : Nat} {e : TypeId} {v : Value} {l : List UInt8} (h : ownB w base e v l) : ∃ a cap, v = .slice a l.length cap := by
  rcases h.2 with ⟨rfl, h0⟩ | ⟨g, cap, cur, rfl, _⟩
  · exact ⟨none, 0, by rw [h0]⟩
  · exact ⟨_, cap, rfl⟩
set_option maxRecDepth 100000 in
theorem ownB.lt {w : World} {base : Nat} {e : TypeId} {v : Value} {l : List UInt8} (h : ownB w base e v l) : ∀ k, v.ownBlock = some k → base ≤ k ∧ k < w.heap.size := World.ownsRow.lt h
set_option maxRecDepth 100000 in
theorem ownS.lt {w : World} {base : Nat} {v : Value} {l : List (List UInt8)} (h : ownS w base v l) : ∀ k, v.ownBlock = some k → base ≤ k ∧ k < w.heap.size := World.ownsRow.lt h
set_option maxRecDepth 100000 in
theorem ownB.block {w : World} {base : Nat} {e : TypeId} {v : Value} {l : List UInt8} (h : ownB w base e v l) : ∀ g, v.ownBlock = some g → ∃ cs, w.heap[g]? = some (.cells cs e (0, 0)) := by
  intro g hg
  rcases h.2 with ⟨rfl, _⟩ | ⟨g', cap, cur, rfl, _, hgg, _⟩
  · simp [Value.ownBlock] at hg
  · simp [Value.ownBlock] at hg; subst hg; exact ⟨cur, hgg⟩
set_option maxRecDepth 100000 in
theorem ownS.block {w : World} {base : Nat} {v : Value} {l : List (List UInt8)} (h : ownS w base v l) : ∀ g, v.ownBlock = some g → ∃ cs, w.heap[g]? = some (.cells cs 9 (0, 0)) := by
  intro g hg
  rcases h.2 with ⟨rfl, _⟩ | ⟨g', cap, cur, rfl, _, hgg, _⟩
  · simp [Value.ownBlock] at hg
  · simp [Value.ownBlock] at hg; subst hg; exact ⟨cur, hgg⟩
set_option maxRecDepth 100000 in
theorem ownS.mono {w : World} {b b' : Nat} {v : Value} {l : List (List UInt8)} (h : ownS w b v l) (hb : b' ≤ b) : ownS w b' v l := by
  refine ⟨h.1, ?_⟩
  rcases h.2 with hn | ⟨g, cap, cur, rfl, hb2, rest⟩
  · exact .inl hn
  · exact .inr ⟨g, cap, cur, rfl, Nat.le_trans hb hb2, rest⟩

/-! A row of bytes that is read. -/
def bytesAt (w : World) (x : Value) (l : List UInt8) : Prop :=
  ∃ g cap cs fr, x = .slice (some ⟨g, 0, none⟩) l.length cap ∧ w.heap[g]? = some (.cells cs 5 fr) ∧ ∀ j (h : j < l.length), cs[j]? = some (.int .u8 (l[j].toNat : Int))
set_option maxRecDepth 100000 in
theorem bytesAt.kept {w w' : World} {x : Value} {l : List UInt8} (h : bytesAt w x l) (hk : ∀ g, x.ownBlock = some g → w'.heap[g]? = w.heap[g]?) : bytesAt w' x l := by
  obtain ⟨g, cap, cs, fr, rfl, hg, hc⟩ := h
  exact ⟨g, cap, cs, fr, rfl, by rw [hk g rfl]; exact hg, hc⟩
set_option maxRecDepth 100000 in
theorem bytesAt.lt {w : World} {x : Value} {l : List UInt8} (h : bytesAt w x l) : ∀ g, x.ownBlock = some g → g < w.heap.size := by
  obtain ⟨g, cap, cs, fr, rfl, hg, hc⟩ := h
  intro k hk
  simp [Value.ownBlock] at hk; subst hk
  exact (Array.getElem?_eq_some_iff.1 hg).1
set_option maxRecDepth 100000 in
theorem bytesAt.block {w : World} {x : Value} {l : List UInt8} (h : bytesAt w x l) : ∀ g, x.ownBlock = some g → ∃ cs fr, w.heap[g]? = some (.cells cs 5 fr) := by
  obtain ⟨g, cap, cs, fr, rfl, hg, hc⟩ := h
  intro k hk
  simp [Value.ownBlock] at hk; subst hk
  exact ⟨cs, fr, hg⟩

/-! What a call leaves alone. -/
/-- All blocks of w but those of S are in w' as they were. -/
structure Kept (S : Nat → Prop) (w w' : World) : Prop where
  os : w'.os = w.os
  tape : w'.tape = w.tape
  output : w'.output = w.output
  size : w.heap.size ≤ w'.heap.size
  block : ∀ k, k < w.heap.size → ¬ S k → w'.heap[k]? = w.heap[k]?
set_option maxRecDepth 100000 in
theorem Kept.refl (S : Nat → Prop) (w : World) : Kept S w w := ⟨rfl, rfl, rfl, Nat.le_refl _, fun _ _ _ => rfl⟩
set_option maxRecDepth 100000 in
theorem Kept.trans {S T : Nat → Prop} {a b c : World} (h : Kept S a b) (k : Kept T b c) (hST : ∀ i, i < a.heap.size → T i → S i) : Kept S a c :=
  ⟨k.os.trans h.os, k.tape.trans h.tape, k.output.trans h.output, Nat.le_trans h.size k.size,
    fun i hi hs => (k.block i (Nat.lt_of_lt_of_le hi h.size) (fun ht => hs (hST i hi ht))).trans (h.block i hi hs)⟩
set_option maxRecDepth 100000 in
theorem Kept.alloc {S : Nat → Prop} {a w : World} (h : Kept S a w) (o : Obj) : Kept S a (w.alloc o) :=
  h.trans (T := fun _ => False) ⟨rfl, rfl, rfl, by simp, fun k hk _ => Below.heap_alloc _ _ _ hk⟩ (fun _ _ h => h.elim)
set_option maxRecDepth 100000 in
theorem Kept.setCell {S : Nat → Prop} {a w : World} (h : Kept S a w) (p : Addr) (u : Value) (hp : p.block < a.heap.size → S p.block) : Kept S a (w.setCell p u) :=
  h.trans (T := fun k => k = p.block) ⟨rfl, rfl, rfl, by simp [World.setCell], fun k _ hne => Below.heap_setCell _ _ _ _ hne⟩ (fun i hi e => by subst e; exact hp hi)
set_option maxRecDepth 100000 in
theorem Kept.grown {S : Nat → Prop} {a w w' : World} {row : Option Nat} (h : Kept S a w) (hg : w.grownBy w' row) (hr : ∀ k, row = some k → k < a.heap.size → S k) : Kept S a w' :=
  h.trans (T := fun k => some k = row) ⟨hg.os, hg.tape, hg.output, hg.size, fun k hk hne => hg.block k hk hne⟩ (fun i hi e => hr i e.symm hi)
set_option maxRecDepth 100000 in
theorem Kept.below {S : Nat → Prop} {B : Nat} {w w' : World} (h : Kept S w w') (hB : B ≤ w.heap.size) (hS : ∀ k, S k → B ≤ k) : Below B w w' :=
  ⟨h.os, h.tape, h.output, h.size, fun k hk => h.block k (by omega) (fun hs => by have := hS k hs; omega)⟩
set_option maxRecDepth 100000 in
theorem Kept.of_below {S : Nat → Prop} {B : Nat} {w w' : World} (h : Below B w w') (hB : w.heap.size ≤ B) : Kept S w w' :=
  ⟨h.os, h.tape, h.output, h.size, fun k hk _ => h.block k (by omega)⟩
set_option maxRecDepth 100000 in
theorem Kept.drewN {S : Nat → Prop} {a w : World} (h : Kept S a w) (n : Nat) : Kept S a (w.drewN n) := ⟨h.os, h.tape, h.output, h.size, h.block⟩
set_option maxRecDepth 100000 in
theorem Kept.drew {S : Nat → Prop} {a w : World} (h : Kept S a w) : Kept S a w.drew := ⟨h.os, h.tape, h.output, h.size, h.block⟩

set_option maxRecDepth 100000 in
/-- A cell of an owned block's own, written. -/
theorem heap_setCell_at {w : World} {K i : Nat} {cs : Array Value} {t : TypeId} {fr : Nat × Nat} (h : w.heap[K]? = some (.cells cs t fr)) (u : Value) : (w.setCell ⟨K, i, none⟩ u).heap[K]? = some (.cells (cs.setIfInBounds i u) t fr) := by
  rw [setCell_eq_setRow w K i cs t fr u h]
  exact setRow_heap w K cs _ t _ h
set_option maxRecDepth 100000 in
/-- An emptied row is owned, too. -/
theorem ownB.cut {w : World} {base g n cap : Nat} {e : TypeId} {l : List UInt8} (h : ownB w base e (.slice (some ⟨g, 0, none⟩) n cap) l) : ownB w base e (.slice (some ⟨g, 0, none⟩) 0 cap) [] := by
  refine ⟨rfl, .inr ?_⟩
  rcases h.2 with ⟨h0, _⟩ | ⟨g', cap', cur, hv, hb, hg, h1, h2, h3, h4⟩
  · cases h0
  · cases hv
    exact ⟨g, cap, cur, rfl, hb, hg, Nat.zero_le _, h2, h3, by simp [bcells]⟩
set_option maxRecDepth 100000 in
theorem bcells_at (l : List UInt8) {j : Nat} {u : Value} (h : (bcells l)[j]? = some u) : ∃ hj : j < l.length, u = .int .u8 (l[j].toNat : Int) := by
  have hj : j < l.length := by have := (List.getElem?_eq_some_iff.1 h).1; simpa [bcells] using this
  refine ⟨hj, ?_⟩
  simp [bcells, List.getElem?_eq_getElem hj] at h
  exact h.symm
set_option maxRecDepth 100000 in
theorem ownB.src {w : World} {base g n cap : Nat} {e : TypeId} {l : List UInt8} (h : ownB w base e (.slice (some ⟨g, 0, none⟩) n cap) l) : ∀ j u, (bcells l)[j]? = some u → w.cell? ((⟨g, 0, none⟩ : Addr).add j) = some u := by
  intro j u hu
  rcases h.2 with ⟨h0, _⟩ | ⟨g', cap', cur, hv, hb, hg, h1, h2, h3, h4⟩
  · cases h0
  · cases hv
    have hj : j < l.length := by have := (List.getElem?_eq_some_iff.1 hu).1; simpa [bcells] using this
    rw [add_zero_off, cell_of_row w g j cur e (0, 0) hg, ← hu, ← h4, Nat.mul_one, List.getElem?_take_of_lt hj]
    simp
set_option maxRecDepth 100000 in
theorem size5 : (Try.prog.info? 5).map (·.size) = some 1 := by
  obtain ⟨i0, hi, hz0, hz1, hz2⟩ := info_parts Try.info5
  rw [hi]; simp [hz1]
set_option maxRecDepth 100000 in
theorem run_copy_word {w : World} {B base base' g cap : Nat} {l : List UInt8} {xs : List Value} (ty : TypeId)
    (hown : w.ownsRow base 5 1 (.slice (some ⟨B, 0, none⟩) l.length l.length) l.length xs) (hv : ownB w base' 5 (.slice (some ⟨g, 0, none⟩) l.length cap) l) :
    ∃ w', (Builtin.copy_ #[66, 66] ty #[.slice (some ⟨B, 0, none⟩) l.length l.length, .slice (some ⟨g, 0, none⟩) l.length cap]).run Try.prog w = .ok (.int .i64 (l.length : Int)) w' ∧
      ownB w' base 5 (.slice (some ⟨B, 0, none⟩) l.length l.length) l ∧ w.grownBy w' (some B) := by
  rcases hown.2 with ⟨h0, _⟩ | ⟨g', cap', cur, hv', hb, hg, h1, h2, h3, h4⟩
  · cases h0
  · cases hv'
    have hsz : cur.size = l.length := by rw [h3]; simp
    refine ⟨_, run_copy_row Try.prog w 66 66 ty 5 B 0 l.length l.length ⟨g, 0, none⟩ l.length cap cur 5 (bcells l) Try.underlying66 size5 hg (by simp [bcells]) (ownB.src hv) (by rw [bcells_len]; omega) (bcells_one l) |>.trans (by rw [bcells_len]; rfl), ?_, ?_⟩
    · have hdrop : cur.toList.take 0 ++ bcells l ++ cur.toList.drop (0 + l.length) = bcells l := by
        rw [List.take_zero, List.nil_append, Nat.zero_add, List.drop_of_length_le (by simp; omega), List.append_nil]
      rw [hdrop]
      exact ⟨by simp [bcells], .inr ⟨B, l.length, (bcells l).toArray, rfl, hb, setRow_heap w B cur _ 5 _ hg, Nat.le_refl _, h2, by simp [bcells], by simp [bcells_len, List.take_of_length_le]⟩⟩
    · exact ⟨rfl, rfl, rfl, by simp [World.setRow], fun k _ hne => setRow_other w B k _ (fun e => hne (by rw [e]))⟩

set_option maxRecDepth 100000 in
theorem grown_alloc {w w2 : World} {n : Nat} {o : Obj} {row : Option Nat} (h : ((w.drewN n).alloc o).grownBy w2 row) : w.grownBy w2 row :=
  ⟨h.os, h.tape, h.output, Nat.le_trans (by rw [World.size_alloc]; exact Nat.le_succ _) h.size, fun k hk hne => (h.block k (by rw [World.size_alloc]; exact Nat.lt_succ_of_lt hk) hne).trans (Below.heap_alloc (w.drewN n) o k hk)⟩

/-- The bytes of a text. -/
abbrev bs (s : ByteArray) : List UInt8 := s.data.toList

set_option maxRecDepth 100000 in
theorem extract_bs (s : ByteArray) (a b : Nat) : s.extract a b = ⟨(((bs s).drop a).take (b - a)).toArray⟩ := by
  have := ByteArray.extract_mk (bs s) a b
  rwa [ba_eq] at this
set_option maxRecDepth 100000 in
theorem bytesAt_conv (w : World) (s : ByteArray) (c : Nat) (fr : Nat × Nat) : bytesAt (w.drew.alloc (.cells (bytesRow s c) 5 fr)) (.slice (some ⟨w.heap.size, 0, none⟩) s.size c) (bs s) := by
  refine ⟨w.heap.size, c, bytesRow s c, fr, ?_, heap_alloc_new w.drew _, fun j hj => ?_⟩
  · rw [size_toList]
  · have hj' : j < s.data.size := by simpa using hj
    rw [bytesRow_at s c j hj']
    simp
set_option maxRecDepth 100000 in
/-- '[]byte(s)': a new row. -/
theorem conv_bytes (w : World) (s : ByteArray) : ∃ x w', (convert 9 66 (.string s)).run Try.prog w = .ok x w' ∧ bytesAt w' x (bs s) ∧ x.ownBlock = some w.heap.size ∧ Below w.heap.size w w' ∧ w'.heap.size = w.heap.size + 1 :=
  ⟨_, _, run_bytes_of_string w 9 66 5 s Try.underlying9 Try.underlying66 Try.underlying5, bytesAt_conv w s _ _, rfl, (Below.refl _ _).drew.alloc (Nat.le_refl _) _, by rw [World.size_alloc]; rfl⟩
set_option maxRecDepth 100000 in
/-- Texts appended to texts. -/
theorem ownS.app {w2 : World} {b : Nat} {r : Value} {A B : List (List UInt8)} {n : Nat} (h : w2.ownsRow b 9 1 r (A.length + n) (scells A ++ scells B)) (hn : n = B.length) : ownS w2 b r (A ++ B) := by
  unfold ownS; rw [List.length_append, scells_append, ← hn]; exact h
set_option maxRecDepth 100000 in
theorem ownS.form {w : World} {b : Nat} {r : Value} {A : List (List UInt8)} (h : ownS w b r A) : (r = .slice none 0 0 ∧ A = []) ∨ (∃ g cap, r = .slice (some ⟨g, 0, none⟩) A.length cap ∧ b ≤ g ∧ g < w.heap.size) := by
  rcases h.2 with ⟨rfl, h0⟩ | ⟨g, cap, cur, rfl, hb, hg, _⟩
  · exact .inl ⟨rfl, List.eq_nil_of_length_eq_zero h0⟩
  · exact .inr ⟨g, cap, rfl, hb, (Array.getElem?_eq_some_iff.1 hg).1⟩
set_option maxRecDepth 100000 in
theorem ownS.src {w : World} {b g cap : Nat} {A : List (List UInt8)} (h : ownS w b (.slice (some ⟨g, 0, none⟩) A.length cap) A) : ∀ j u, (scells A)[j]? = some u → w.cell? ((⟨g, 0, none⟩ : Addr).add j) = some u := by
  intro j u hu
  rcases h.2 with ⟨h0, _⟩ | ⟨g', cap', cur, hv, hb, hg, h1, h2, h3, h4⟩
  · cases h0
  · cases hv
    have hj : j < A.length := by have := (List.getElem?_eq_some_iff.1 hu).1; simpa [scells] using this
    rw [add_zero_off, cell_of_row w g j cur 9 (0, 0) hg, ← hu, ← h4, Nat.mul_one, List.getElem?_take_of_lt hj]
    simp
set_option maxRecDepth 100000 in
/-- 'append(a, b...)' of two rows of texts: whatever b is. -/
theorem run_append_texts {w : World} {base b' : Nat} {v x : Value} {A B : List (List UInt8)} (ty : TypeId) (hA : ownS w base v A) (hB : ownS w b' x B) (hl : A.length + B.length ≤ 1048576) (hb : base ≤ w.heap.size) :
    ∃ r w', (Builtin.append_ #[34, 34] ty #[v, x]).run Try.prog w = .ok r w' ∧ ownS w' base r (A ++ B) ∧ w.grownBy w' v.ownBlock := by
  obtain ⟨j0, hj, hy0, hy1, hy2⟩ := info_parts Try.info9
  rcases hB.form with ⟨rfl, rfl⟩ | ⟨g, cap, rfl, hbg, hgw⟩
  · refine ⟨v, w, run_append_owned_none w base 34 ty 9 j0 1 Try.underlying34 hj v _ _ hA, by simpa using hA, ⟨rfl, rfl, rfl, Nat.le_refl _, fun _ _ _ => rfl⟩⟩
  · obtain ⟨r, w', hr, h2, h3, _, _⟩ := run_append_own_at (P := Try.prog) w base 34 ty 9 j0 (.string ⟨#[]⟩) 1 16 Try.underlying34 hj hy0 hy1 hy2 rfl (by decide) v A.length (scells A) hA ⟨g, 0, none⟩ B.length cap (scells B) (by simp [scells]) hB.src (scells_one B) (by unfold maxLen; omega) (by omega) hb
    exact ⟨r, w', hr, ownS.app h2 rfl, h3⟩

set_option maxRecDepth 100000 in
theorem wpList_append_texts {w : World} {ops : Array Oper} {rest : List Oper} {o : Oper} {a : Act} {Q : Exit → Act → World → Prop} (hgd : o.guard = none) (s x : Operand)
    (ho : o.op = .call { callee := .builtin .append, args := #[s, x], argTypes := #[34, 34] }) (base b' : Nat) (v y : Value) (A B : List (List UInt8)) (hs : a.eval s = v) (hx : a.eval x = y)
    (hA : ownS w base v A) (hB : ownS w b' y B) (hl : A.length + B.length ≤ 1048576) (hb : base ≤ w.heap.size)
    (h : ∀ r w', ownS w' base r (A ++ B) → w.grownBy w' v.ownBlock → wpList Try.prog ops Q rest (a.put o.dst r) w') : wpList Try.prog ops Q (o :: rest) a w := by
  refine wpList_plain hgd fun K hK => ?_
  obtain ⟨r, w', hr, h2, h3⟩ := run_append_texts o.type hA hB hl hb
  unfold Oper.wp execOp
  simp only [ho, resolve, invoke, builtin, Sem.run_bind, Sem.run_pure, Result.andThen_ok, List.map_toArray, List.map_cons, List.map_nil, hs, hx, hr]
  exact hK _ _ (h r w' h2 h3)

set_option maxRecDepth 100000 in
theorem lit_bytes (w : World) (l : List UInt8) (n : Nat) (fr : Nat × Nat) (hn : n = l.length) : bytesAt (w.alloc (.cells (bcells l).toArray 5 fr)) (.slice (some ⟨w.heap.size, 0, none⟩) n n) l := by
  subst hn
  refine ⟨w.heap.size, _, (bcells l).toArray, fr, rfl, heap_alloc_new w _, fun j hj => ?_⟩
  simp [bcells, List.getElem?_eq_getElem hj]
set_option maxRecDepth 100000 in
/-- A row of one text that was laid out. -/
theorem lit_text (w : World) (l : List UInt8) : strsAt (w.alloc (.cells #[.string ⟨l.toArray⟩] 9)) (.slice (some ⟨w.heap.size, 0, none⟩) 1 1) [l] := by
  refine ⟨_, _, rfl, fun j hj => ⟨_, rfl, ?_⟩⟩
  have hj0 : j = 0 := by simp at hj; exact hj
  subst hj0
  rw [add_zero_off, cell_of_row _ _ 0 _ 9 (0, 0) (heap_alloc_new w _)]
  rfl
set_option maxRecDepth 100000 in
theorem strsAt.kept {w w' : World} {v : Value} {L : List (List UInt8)} (h : strsAt w v L) (hk : ∀ a n c, v = .slice (some a) n c → w'.heap[a.block]? = w.heap[a.block]?) : strsAt w' v L := by
  obtain ⟨a, cap, rfl, hc⟩ := h
  refine ⟨a, cap, rfl, fun j hj => ?_⟩
  obtain ⟨ad, rfl, hc'⟩ := hc j hj
  refine ⟨ad, rfl, ?_⟩
  rw [← hc']
  have hb : (ad.add j).block = ad.block := by unfold Addr.add; split <;> rfl
  exact World.cell?_of_block (by rw [hb]; exact hk ad _ _ rfl)

set_option maxRecDepth 100000 in
theorem ownS.form2 {w : World} {b : Nat} {r : Value} {A : List (List UInt8)} (h : ownS w b r A) : ∃ a cap, r = .slice a A.length cap := by
  rcases h.form with ⟨rfl, rfl⟩ | ⟨g, cap, rfl, _⟩
  · exact ⟨none, 0, rfl⟩
  · exact ⟨_, cap, rfl⟩
set_option maxRecDepth 100000 in
theorem below_drewN' {B : Nat} {a w : World} (h : Below B a w) (n : Nat) : Below B a (w.drewN n) := ⟨h.os, h.tape, h.output, h.size, h.block⟩
set_option maxRecDepth 100000 in
theorem Below.kept {B : Nat} {S : Nat → Prop} {a w w' : World} (h : Below B a w) (k : Kept S w w') (hS : ∀ i, S i → B ≤ i) (hB : B ≤ w.heap.size) : Below B a w' := h.trans (k.below hB hS)
set_option maxRecDepth 100000 in
theorem byte_of (n : Int) (h : (Lit.int .u8 n).wf = true) : ∃ c : UInt8, n = (c.toNat : Int) := by
  obtain ⟨h0, h1⟩ := bounds_u8 h
  refine ⟨UInt8.ofNat n.toNat, ?_⟩
  rw [UInt8.toNat_ofNat_of_lt' (by simp [UInt8.size]; omega)]
  omega
set_option maxRecDepth 100000 in
theorem ownS.below {w w' : World} {b B : Nat} {v : Value} {L : List (List UInt8)} (h : ownS w b v L) (hb : Below B w w') (hB : w.heap.size ≤ B) : ownS w' b v L :=
  h.kept fun g hg => hb.block g (Nat.lt_of_lt_of_le (h.lt g hg).2 hB)

/-- Block g is a row of n bytes at least that may be written. -/
def rowOk (w : World) (g n : Nat) : Prop := ∃ cs fr, w.heap[g]? = some (.cells cs 5 fr) ∧ n ≤ cs.size ∧ n ≤ fr.1
set_option maxRecDepth 100000 in
theorem rowOk.cells {w : World} {g n j : Nat} (h : rowOk w g n) (hj : j < n) : (∃ u, w.cell? ⟨g, j, none⟩ = some u) ∧ w.frozen? ⟨g, j, none⟩ = false := by
  obtain ⟨cs, fr, hg, h1, h2⟩ := h
  refine ⟨⟨cs[j], ?_⟩, ?_⟩
  · rw [cell_of_row w g j cs 5 fr hg, Array.getElem?_eq_getElem (by omega)]
  · unfold World.frozen?; rw [hg]; simp; omega
set_option maxRecDepth 100000 in
theorem rowOk.store {w : World} {g n : Nat} (h : rowOk w g n) (j : Nat) (u : Value) : rowOk (w.setCell ⟨g, j, none⟩ u) g n := by
  obtain ⟨cs, fr, hg, h1, h2⟩ := h
  exact ⟨_, fr, heap_setCell_at hg u, by simpa using h1, h2⟩
set_option maxRecDepth 100000 in
theorem rowOk.kept {w w' : World} {g n : Nat} (h : rowOk w g n) (hk : w'.heap[g]? = w.heap[g]?) : rowOk w' g n := by
  obtain ⟨cs, fr, hg, h1, h2⟩ := h
  exact ⟨cs, fr, hk.trans hg, h1, h2⟩
set_option maxRecDepth 100000 in
theorem conv_row (w : World) (s : ByteArray) : ∃ c w', (convert 9 66 (.string s)).run Try.prog w = .ok (.slice (some ⟨w.heap.size, 0, none⟩) s.size c) w' ∧ bytesAt w' (.slice (some ⟨w.heap.size, 0, none⟩) s.size c) (bs s) ∧ rowOk w' w.heap.size s.size ∧ Below w.heap.size w w' ∧ w'.heap.size = w.heap.size + 1 := by
  refine ⟨_, _, run_bytes_of_string w 9 66 5 s Try.underlying9 Try.underlying66 Try.underlying5, bytesAt_conv w s _ _, ?_, (Below.refl _ _).drew.alloc (Nat.le_refl _) _, by rw [World.size_alloc]; rfl⟩
  have hsz : s.size ≤ (bytesRow s (grownCap w s.size 0 5)).size := by
    unfold bytesRow
    rw [Array.size_append, Array.size_map]
    show s.data.size ≤ _
    omega
  exact ⟨_, _, heap_alloc_new w.drew _, hsz, hsz⟩

set_option maxRecDepth 100000 in
theorem ownS.row {w w1 : World} {b g : Nat} {u : Value} {n : Nat} {L : List (List UInt8)} (h : ownS w b u L) (hr : rowOk w g n) (hk : Kept (fun k => k = g) w w1) : ownS w1 b u L := by
  refine h.kept fun i hi => hk.block i (h.lt i hi).2 ?_
  rintro rfl
  obtain ⟨cs, hc⟩ := h.block i hi
  obtain ⟨cs2, fr, hc2, _⟩ := hr
  rw [hc] at hc2; cases hc2
set_option maxRecDepth 100000 in
theorem take_mid (s : ByteArray) {f t : Nat} (hft : f ≤ t) : (bs s).take t = (bs s).take f ++ ((bs s).drop f).take (t - f) := by
  have := List.take_append_drop f ((bs s).take t)
  rw [List.take_take, Nat.min_eq_left hft, List.drop_take] at this
  exact this.symm

set_option maxRecDepth 100000 in
theorem cut_mid (s : ByteArray) (f t : Nat) (T : Int) (hT : T = (t : Int)) (h1 : f < t) (h2 : t ≤ s.size) : ∃ y : ByteArray, (∀ w, (Instr.slice 9 (.string s) (some (.int .i64 (f : Int))) (some (.int .i64 T)) none).run Try.prog w = .ok (.string y) w) ∧
    (bs s).take t = (bs s).take f ++ bs y ∧ y.size = t - f := by
  subst hT
  refine ⟨s.extract f t, fun w => ?_, ?_, ?_⟩
  · rw [run_slice_string w 9 s .i64 .i64 f t Try.underlying9 (by omega) (by omega) (by omega)]
    simp only [Int.toNat_natCast]
  · rw [extract_bs, take_mid s (Nat.le_of_lt h1)]
  · rw [ByteArray.size_extract]; omega

set_option maxRecDepth 100000 in
theorem sizeTexts (w : World) : (sizeOf (Try.prog.elem 34)).run Try.prog w = .ok 1 w := by
  obtain ⟨j0, hj, hy0, hy1, hy2⟩ := info_parts Try.info9
  have he : Try.prog.elem 34 = 9 := by kernel_rfl
  rw [he]
  simp [sizeOf, typeInfo, hj, hy1]
set_option maxRecDepth 100000 in
theorem elemTexts : Try.prog.underlying 34 = some (.slice (Try.prog.elem 34)) := by kernel_rfl
set_option maxRecDepth 100000 in
theorem add_zero_any (a : Addr) : a.add 0 = a := by unfold Addr.add; split <;> simp_all
set_option maxRecDepth 100000 in
theorem add_add_any (a : Addr) (i j : Nat) : (a.add i).add j = a.add (i + j) := Deep.add_add a i j
set_option maxRecDepth 100000 in
/-- 'x[:k]' of a row of texts. -/
theorem slice_head (a : Option Addr) (len cap k : Nat) (K : Int) (hK : K = (k : Int)) (hk : k ≤ cap) : ∃ v, (∀ w, (Instr.slice 34 (.slice a len cap) none (some (.int .i64 K)) none).run Try.prog w = .ok v w) ∧
    ∀ w L, strsAt w (.slice a len cap) L → k ≤ L.length → strsAt w v (L.take k) := by
  subst hK
  refine ⟨sliced a 0 k cap 1, fun w => ?_, ?_⟩
  · rw [run_slice_h w 34 a len cap elemTexts .i64 k (by omega) (by omega), sizeTexts]
    simp
  · rintro w L ⟨a', cap', e, hc⟩ hkL
    cases e
    unfold sliced
    refine ⟨_, cap - 0, by rw [List.length_take, Nat.min_eq_left hkL]; rfl, fun j hj => ?_⟩
    rw [List.length_take] at hj
    obtain ⟨ad, rfl, hcj⟩ := hc j (by omega)
    refine ⟨ad, ?_, ?_⟩
    · split <;> simp [add_zero_any]
    · rw [hcj]; simp
set_option maxRecDepth 100000 in
/-- 'x[l:]' of a row of texts. -/
theorem slice_tail (a : Option Addr) (len cap l : Nat) (hl : l ≤ len) (hc : len ≤ cap) : ∃ v, (∀ w, (Instr.slice 34 (.slice a len cap) (some (.int .i64 (l : Int))) none none).run Try.prog w = .ok v w) ∧
    ∀ w L, strsAt w (.slice a len cap) L → strsAt w v (L.drop l) := by
  refine ⟨sliced a l len cap 1, fun w => ?_, ?_⟩
  · rw [run_slice_l w 34 a len cap elemTexts .i64 l (by omega) (by omega), sizeTexts]
    simp
  · rintro w L ⟨a', cap', e, hcL⟩
    cases e
    unfold sliced
    refine ⟨_, cap - l, by rw [List.length_drop], fun j hj => ?_⟩
    rw [List.length_drop] at hj
    obtain ⟨ad, rfl, hcj⟩ := hcL (l + j) (by omega)
    refine ⟨ad.add l, ?_, ?_⟩
    · rw [if_neg (by omega)]; simp
    · rw [add_add_any, hcj]; simp
set_option maxRecDepth 100000 in
/-- The text up to place k. -/
theorem cut_head (c : ByteArray) (k : Nat) (hk : k ≤ c.size) : ∃ d : ByteArray, (∀ w, (Instr.slice 9 (.string c) none (some (.int .i64 (k : Int))) none).run Try.prog w = .ok (.string d) w) ∧ bs d = (bs c).take k := by
  refine ⟨c.extract 0 k, fun w => ?_, ?_⟩
  · rw [run_slice_string_h w 9 c Try.underlying9 .i64 k (by omega) (by omega)]; rfl
  · rw [extract_bs, List.drop_zero, Nat.sub_zero]

set_option maxRecDepth 100000 in
theorem ownS.form3 {w : World} {b : Nat} {r : Value} {A : List (List UInt8)} (h : ownS w b r A) : ∃ a cap, r = .slice a A.length cap ∧ A.length ≤ cap := by
  rcases h.2 with ⟨rfl, h0⟩ | ⟨g, cap, cur, rfl, _, _, h1, _⟩
  · exact ⟨none, 0, by rw [h0], by omega⟩
  · exact ⟨_, cap, rfl, h1⟩

set_option maxRecDepth 100000 in
theorem strsAt.below {w w' : World} {v : Value} {L : List (List UInt8)} (h : strsAt w v L) (hb : Below w.heap.size w w') : strsAt w' v L := by
  obtain ⟨a, cap, rfl, hc⟩ := h
  refine ⟨a, cap, rfl, fun j hj => ?_⟩
  obtain ⟨ad, rfl, hc'⟩ := hc j hj
  exact ⟨ad, rfl, (hb.cell (World.block_lt_of_cell? w _ hc')).trans hc'⟩
set_option maxRecDepth 100000 in
theorem flat_le (L : List (List UInt8)) (k : Nat) : (L.take k).flatten.length ≤ L.flatten.length := by
  conv => rhs; rw [← List.take_append_drop k L, List.flatten_append, List.length_append]
  omega
set_option maxRecDepth 100000 in
theorem flat_next (L : List (List UInt8)) {k : Nat} (h : k < L.length) : (L.take (k + 1)).flatten = (L.take k).flatten ++ L[k] := by
  rw [List.take_succ_eq_append_getElem h, List.flatten_append]; simp

/-- The blocks of a splitter. -/
def mine (K : Nat) (v : Value) (k : Nat) : Prop := k = K ∨ some k = v.ownBlock
def Moved (v v' : Value) (n : Nat) : Prop := v'.ownBlock = v.ownBlock ∨ ∀ g, v'.ownBlock = some g → n ≤ g
set_option maxRecDepth 100000 in
theorem Moved.refl (v : Value) (n : Nat) : Moved v v n := .inl rfl
set_option maxRecDepth 100000 in
theorem Moved.trans {a b c : Value} {n m : Nat} (h : Moved a b n) (k : Moved b c m) (hm : n ≤ m) : Moved a c n := by
  rcases k with k | k
  · rcases h with h | h
    · exact .inl (k.trans h)
    · exact .inr fun g hg => h g (by rw [← k]; exact hg)
  · exact .inr fun g hg => Nat.le_trans hm (k g hg)
set_option maxRecDepth 100000 in
theorem mine_moved {K : Nat} {v v' : Value} {n i : Nat} (h : Moved v v' n) (hi : i < n) (hm : mine K v' i) : mine K v i := by
  rcases hm with hm | hm
  · exact .inl hm
  · rcases h with h | h
    · exact .inr (by rw [hm, h])
    · have := h i hm.symm; omega
set_option maxRecDepth 100000 in
theorem bytesAt.src {w : World} {g n cap : Nat} {l : List UInt8} (h : bytesAt w (.slice (some ⟨g, 0, none⟩) n cap) l) : ∀ j u, (bcells l)[j]? = some u → w.cell? ((⟨g, 0, none⟩ : Addr).add j) = some u := by
  intro j u hu
  obtain ⟨hj, rfl⟩ := bcells_at l hu
  obtain ⟨g', cap', cs, fr, e, hg, hc⟩ := h
  cases e
  rw [add_zero_off, cell_of_row w g j cs 5 fr hg, hc j hj]
set_option maxRecDepth 100000 in
theorem Kept.freeze {S : Nat → Prop} {a w : World} (h : Kept S a w) (p : Addr) (n : Nat) (hp : S p.block) : Kept S a (w.freeze p n) := by
  refine h.trans (T := fun k => k = p.block) ?_ (fun i _ e => by subst e; exact hp)
  unfold World.freeze
  split
  · exact Kept.refl _ _
  · exact ⟨rfl, rfl, rfl, by simp, fun k _ hne => by
      have hne' : ¬ p.block = k := fun e => hne e.symm
      simp [Array.getElem?_modify, hne']⟩
set_option maxRecDepth 100000 in
theorem some_text {x : ByteArray} (h : bs x ≠ []) : x.toList.isEmpty = false := by
  rw [ByteArray.toList_eq]
  cases hl : x.data.toList with
  | nil => exact absurd hl h
  | cons _ _ => rfl
set_option maxRecDepth 100000 in
theorem strsAt.below_in {w w' : World} {v : Value} {L : List (List UInt8)} {B : Nat} (h : strsAt w v L) (hb : Below B w w') (hB : w.heap.size ≤ B) : strsAt w' v L := by
  obtain ⟨a, cap, rfl, hc⟩ := h
  refine ⟨a, cap, rfl, fun j hj => ?_⟩
  obtain ⟨ad, rfl, hc'⟩ := hc j hj
  exact ⟨ad, rfl, (hb.cell (Nat.lt_of_lt_of_le (World.block_lt_of_cell? w _ hc') hB)).trans hc'⟩
set_option maxRecDepth 100000 in
/-- 'x[1:]' of a row of texts, and where it lies. -/
theorem slice_one (ad : Addr) (len cap : Nat) (hl : 1 ≤ len) (hc : len ≤ cap) : ∃ a1 c1, (∀ w, (Instr.slice 34 (.slice (some ad) len cap) (some (.int .i64 1)) none none).run Try.prog w = .ok (.slice (some a1) (len - 1) c1) w) ∧
    a1.block = ad.block ∧ len - 1 ≤ c1 ∧ ∀ w p L, strsAt w (.slice (some ad) len cap) (p :: L) → strsAt w (.slice (some a1) (len - 1) c1) L := by
  by_cases he : cap = 1
  · refine ⟨ad, cap - 1, fun w => ?_, rfl, by omega, ?_⟩
    · rw [run_slice_l w 34 (some ad) len cap elemTexts .i64 1 (by omega) (by omega), sizeTexts]
      simp [sliced, he]
    · rintro w p L ⟨a', cap', e, hcL⟩
      cases e
      have h0 : L = [] := List.eq_nil_of_length_eq_zero (by simp at hc; omega)
      subst h0
      exact ⟨_, _, rfl, fun j hj => by simp at hj⟩
  · refine ⟨ad.add 1, cap - 1, fun w => ?_, by unfold Addr.add; split <;> rfl, by omega, ?_⟩
    · rw [run_slice_l w 34 (some ad) len cap elemTexts .i64 1 (by omega) (by omega), sizeTexts]
      simp [sliced, he]
    · rintro w p L ⟨a', cap', e, hcL⟩
      cases e
      refine ⟨some (ad.add 1), cap - 1, by simp, fun j hj => ⟨_, rfl, ?_⟩⟩
      obtain ⟨ad', e, hcj⟩ := hcL (1 + j) (by simp; omega)
      cases e
      rw [add_add_any, hcj]
      simp [Nat.add_comm 1 j]
set_option maxRecDepth 100000 in
theorem empty_of {t : ByteArray} (h : bs t = []) : t = ⟨#[]⟩ := by
  have := ba_eq t
  rw [← this]; simp [h]
set_option maxRecDepth 100000 in
theorem bs_size (t : ByteArray) : (bs t).length = t.size := size_toList t
set_option maxRecDepth 100000 in
theorem bytesAt.text {w : World} {x : Value} {l : List UInt8} (h : bytesAt w x l) : (convert 66 9 x).run Try.prog w = .ok (.string ⟨l.toArray⟩) w := by
  obtain ⟨g, cap, cs, fr, rfl, hg, hc⟩ := h
  refine run_convert_bytes_back w 66 9 5 _ cap l Try.underlying66 Try.underlying5 Try.underlying9 fun j hj => ?_
  rw [add_zero_off, cell_of_row w g j cs 5 fr hg, hc j hj]
set_option maxRecDepth 100000 in
theorem lit_two (w : World) (a b : List UInt8) : strsAt (w.alloc (.cells #[.string ⟨a.toArray⟩, .string ⟨b.toArray⟩] 9)) (.slice (some ⟨w.heap.size, 0, none⟩) 2 2) [a, b] := by
  refine ⟨_, _, rfl, fun j hj => ⟨_, rfl, ?_⟩⟩
  rw [add_zero_off, cell_of_row _ _ j _ 9 (0, 0) (heap_alloc_new w _)]
  match j, hj with
  | 0, _ => rfl
  | 1, _ => rfl
set_option maxRecDepth 100000 in
theorem nilrow_text (w : World) : (convert 66 9 (.slice none 0 0)).run Try.prog w = .ok (.string ⟨#[]⟩) w := by
  rw [run_convert_bytes_string w 66 9 5 none 0 0 Try.underlying66 Try.underlying5 Try.underlying9]
  simp [Conv.bytesToString, Sem.run_pure]
  rfl
set_option maxRecDepth 100000 in
/-- 'append(a, b...)' where a is owned and b is read. -/
theorem run_append_read {w : World} {base : Nat} {v x : Value} {A B : List (List UInt8)} (ty : TypeId) (hA : ownS w base v A) (hB : strsAt w x B) (hnil : ∀ n c, x = .slice none n c → c = 0) (hl : A.length + B.length ≤ 1048576) (hb : base ≤ w.heap.size) :
    ∃ r w', (Builtin.append_ #[34, 34] ty #[v, x]).run Try.prog w = .ok r w' ∧ ownS w' base r (A ++ B) ∧ w.grownBy w' v.ownBlock := by
  obtain ⟨j0, hj, hy0, hy1, hy2⟩ := info_parts Try.info9
  obtain ⟨a, c, rfl, hc⟩ := hB
  cases a with
  | none =>
    obtain rfl := hnil _ _ rfl
    have hB0 : B = [] := by
      cases B with
      | nil => rfl
      | cons b r => obtain ⟨ad, e, _⟩ := hc 0 (by simp); cases e
    subst hB0
    exact ⟨v, w, run_append_owned_none w base 34 ty 9 j0 1 Try.underlying34 hj v _ _ hA, by simpa using hA, ⟨rfl, rfl, rfl, Nat.le_refl _, fun _ _ _ => rfl⟩⟩
  | some ad =>
    have hsrc : ∀ j u, (scells B)[j]? = some u → w.cell? (ad.add j) = some u := by
      intro j u hu
      have hj : j < B.length := by have := (List.getElem?_eq_some_iff.1 hu).1; simpa [scells] using this
      obtain ⟨ad', e, hcj⟩ := hc j hj
      cases e
      rw [hcj, ← hu]
      simp [scells, List.getElem?_eq_getElem hj]
    obtain ⟨r, w', hr, h2, h3, _, _⟩ := run_append_own_at (P := Try.prog) w base 34 ty 9 j0 (.string ⟨#[]⟩) 1 16 Try.underlying34 hj hy0 hy1 hy2 rfl (by decide) v A.length (scells A) hA ad B.length c (scells B) (by simp [scells]) hsrc (scells_one B) (by unfold maxLen; omega) (by omega) hb
    exact ⟨r, w', hr, ownS.app h2 rfl, h3⟩
set_option maxRecDepth 100000 in
theorem wpList_append_read {w : World} {ops : Array Oper} {rest : List Oper} {o : Oper} {a : Act} {Q : Exit → Act → World → Prop} (hgd : o.guard = none) (s x : Operand)
    (ho : o.op = .call { callee := .builtin .append, args := #[s, x], argTypes := #[34, 34] }) (base : Nat) (v y : Value) (A B : List (List UInt8)) (hs : a.eval s = v) (hx : a.eval x = y)
    (hA : ownS w base v A) (hB : strsAt w y B) (hnil : ∀ n c, y = .slice none n c → c = 0) (hl : A.length + B.length ≤ 1048576) (hb : base ≤ w.heap.size)
    (h : ∀ r w', ownS w' base r (A ++ B) → w.grownBy w' v.ownBlock → wpList Try.prog ops Q rest (a.put o.dst r) w') : wpList Try.prog ops Q (o :: rest) a w := by
  refine wpList_plain hgd fun K hK => ?_
  obtain ⟨r, w', hr, h2, h3⟩ := run_append_read o.type hA hB hnil hl hb
  unfold Oper.wp execOp
  simp only [ho, resolve, invoke, builtin, Sem.run_bind, Sem.run_pure, Result.andThen_ok, List.map_toArray, List.map_cons, List.map_nil, hs, hx, hr]
  exact hK _ _ (h r w' h2 h3)
set_option maxRecDepth 100000 in
theorem own_empty (w : World) : ownS (w.alloc (.cells #[] 9)) w.heap.size (.slice (some ⟨w.heap.size, 0, none⟩) 0 0) [] :=
  ⟨rfl, .inr ⟨w.heap.size, 0, #[], rfl, Nat.le_refl _, heap_alloc_new w _, Nat.le_refl _, Nat.zero_le _, rfl, rfl⟩⟩
/-- Block g is a row of n texts at least that may be written. -/
def rowS (w : World) (g n : Nat) : Prop := ∃ cs, w.heap[g]? = some (.cells cs 9 (0, 0)) ∧ n ≤ cs.size
set_option maxRecDepth 100000 in
theorem rowS.cells {w : World} {g n j : Nat} (h : rowS w g n) (hj : j < n) : (∃ u, w.cell? ⟨g, j, none⟩ = some u) ∧ w.frozen? ⟨g, j, none⟩ = false := by
  obtain ⟨cs, hg, h1⟩ := h
  refine ⟨⟨cs[j], ?_⟩, Lib.frozen_of_heap hg j⟩
  rw [cell_of_row w g j cs 9 (0, 0) hg, Array.getElem?_eq_getElem (by omega)]
set_option maxRecDepth 100000 in
theorem rowS.store {w : World} {g n : Nat} (h : rowS w g n) (j : Nat) (u : Value) : rowS (w.setCell ⟨g, j, none⟩ u) g n := by
  obtain ⟨cs, hg, h1⟩ := h
  exact ⟨_, heap_setCell_at hg u, by simpa using h1⟩
set_option maxRecDepth 100000 in
theorem rowS.kept {w w' : World} {g n : Nat} (h : rowS w g n) (hk : w'.heap[g]? = w.heap[g]?) : rowS w' g n := by
  obtain ⟨cs, hg, h1⟩ := h
  exact ⟨cs, hk.trans hg, h1⟩
set_option maxRecDepth 100000 in
theorem rowS_of_own {w : World} {b g : Nat} {v : Value} {L : List (List UInt8)} (h : ownS w b v L) (hg : v.ownBlock = some g) : rowS w g L.length := by
  rcases h.2 with ⟨rfl, _⟩ | ⟨g', cap, cur, rfl, _, hgg, h1, _, h3, _⟩
  · simp [Value.ownBlock] at hg
  · simp [Value.ownBlock] at hg; subst hg; exact ⟨cur, hgg, by omega⟩
/-- A told piece is written over. -/
def PieceRel (w : World) (g n : Nat) (j : Value) (wr : World) : Prop := ∃ m : Nat, m ≤ n ∧ j = .int .i64 (m : Int) ∧ Kept (fun k => k = g) w wr ∧ rowOk wr g n
set_option maxRecDepth 100000 in
theorem pieceRel_step {w wr : World} {g n m : Nat} {u : Value} (hm : m < n) (hk : Kept (fun k => k = g) w wr) (hr : rowOk wr g n) : PieceRel w g n (.int .i64 ((m : Int) + 1)) (wr.setCell ⟨g, m, none⟩ u) :=
  ⟨m + 1, hm, by simp, hk.setCell _ _ fun _ => rfl, hr.store m u⟩
end Go.Proofs.Ytbacbgpemaldbaa
