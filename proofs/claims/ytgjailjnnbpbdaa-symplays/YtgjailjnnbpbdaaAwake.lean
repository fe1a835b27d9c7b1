/- A table of the call's own, and the document's example. -/
import Derived.Test.YtgjailjnnbpbdaaSJoin
namespace Go.Proofs.Ytgjailjnnbpbdaa
open Go.RowKit Go.Maps

/-- The table in block K was made behind w, and nothing that was there has turned. -/
def OwnT (w : World) (K : Nat) (J : List Joint) (wr : World) : Prop := ∃ v b, Stab wr K v b J ∧ (∀ k, mineT K v b k → w.heap.size ≤ k) ∧ Below w.heap.size w wr
theorem OwnT.bel {w wr : World} {K : Nat} {J : List Joint} (h : OwnT w K J wr) : Below w.heap.size w wr := by
  obtain ⟨_, _, _, _, h⟩ := h
  exact h
theorem OwnT.good {w wr : World} {K : Nat} {J : List Joint} (h : OwnT w K J wr) : Good J := by
  obtain ⟨_, _, h, _, _⟩ := h
  exact h.good
theorem OwnT.below {w wr w2 : World} {K : Nat} {J : List Joint} (h : OwnT w K J wr) (hb : Below wr.heap.size wr w2) : OwnT w K J w2 := by
  obtain ⟨v, b, h1, h2, h3⟩ := h
  exact ⟨v, b, h1.below hb, h2, h3.trans (hb.mono h3.size)⟩
theorem OwnT.next {w wr w2 : World} {K : Nat} {v : Value} {b : Option Nat} {J : List Joint} (hm : ∀ k, mineT K v b k → w.heap.size ≤ k) (hb : Below w.heap.size w wr) (h : JoinRet K v b J wr w2) : OwnT w K J w2 := by
  obtain ⟨v', b', h1, h2, h3⟩ := h
  refine ⟨v', b', h1, fun k hk => ?_, hb.trans (h2.below hb.size hm)⟩
  by_cases hlt : k < wr.heap.size
  · exact hm k (h3 k hk hlt)
  · have := hb.size; omega
theorem OwnT.new {w w1 : World} (hb : Below w.heap.size w w1) : OwnT w w1.heap.size [] (w1.alloc (.cells #[.slice none 0 0, .map none] 54)) :=
  ⟨_, _, new_stab w1, (fun k hk => by
    rcases hk with e | e | e
    · rw [e]; exact hb.size
    · cases e
    · cases e), hb.alloc hb.size _⟩
theorem joinO_any (w wr : World) (K : Nat) (J : List Joint) (a c : Int) (h : OwnT w K J wr) (hJ : J.length ≤ 900000) (a0 : -9223372036854775808 ≤ a) (a1 : a ≤ 9223372036854775807) (c0 : -9223372036854775808 ≤ c) (c1 : c ≤ 9223372036854775807) :
    Calls Try.prog 9 #[.pointer (some ⟨K, 0, none⟩), .int .i64 a, .int .i64 c] wr fun e w' => e = .returned (.tuple #[.int .i64 (joinOf J a c).1.1, .int .i64 (joinOf J a c).1.2]) ∧ OwnT w K (joinOf J a c).2 w' := by
  obtain ⟨v, b, h1, h2, h3⟩ := h
  refine (sjoin_any K v b J a c wr h1 hJ a0 a1 c0 c1).mono ?_
  rintro e w' ⟨rfl, hr⟩
  exact ⟨rfl, OwnT.next h2 h3 hr⟩
theorem textO_any (w wr : World) (K : Nat) (J : List Joint) (id : Int) (h : OwnT w K J wr) (hJ : J.length ≤ 900000) (i0 : -9223372036854775808 ≤ id) (i1 : id ≤ 9223372036854775807) :
    Calls Try.prog 12 #[.pointer (some ⟨K, 0, none⟩), .int .i64 id] wr fun e w' => e = .returned (.tuple #[.string (txtOf J id), .bool (thereOf J id)]) ∧ Below wr.heap.size wr w' ∧ OwnT w K J w' := by
  have H := h
  obtain ⟨v, b, h1, h2, h3⟩ := h
  refine (text_any K v b J id wr h1 (by omega) i0 i1).mono ?_
  rintro e w' ⟨rfl, hb⟩
  exact ⟨rfl, hb, H.below hb⟩
theorem pairO_any (w wr : World) (K : Nat) (J : List Joint) (id : Int) (h : OwnT w K J wr) (hJ : J.length ≤ 900000) (i0 : -9223372036854775808 ≤ id) (i1 : id ≤ 9223372036854775807) :
    Calls Try.prog 15 #[.pointer (some ⟨K, 0, none⟩), .int .i64 id] wr fun e w' => e = .returned (pairV (jointOf J id)) ∧ Below wr.heap.size wr w' ∧ OwnT w K J w' := by
  have H := h
  obtain ⟨v, b, h1, h2, h3⟩ := h
  refine (pair_any K v b J id wr h1 (by omega) i0 i1).mono ?_
  rintro e w' ⟨rfl, hb⟩
  exact ⟨rfl, hb, H.below hb⟩
theorem findO_any (w wr : World) (K : Nat) (J : List Joint) (s : ByteArray) (h : OwnT w K J wr) (hs : s.size ≤ 9223372036854775807) :
    Calls Try.prog 13 #[.pointer (some ⟨K, 0, none⟩), .string s] wr fun e w' => e = .returned (.tuple #[.int .i64 (findOf J s).1, .bool (findOf J s).2]) ∧ w' = wr := by
  obtain ⟨v, b, h1, h2, h3⟩ := h
  exact sfind_any K v b J s wr h1 hs
theorem lenO_any (w wr : World) (K : Nat) (J : List Joint) (h : OwnT w K J wr) (hJ : J.length ≤ 900000) :
    Calls Try.prog 11 #[.pointer (some ⟨K, 0, none⟩)] wr fun e w' => e = .returned (.int .i64 ((256 + J.length : Nat) : Int)) ∧ w' = wr := by
  obtain ⟨v, b, h1, h2, h3⟩ := h
  exact slen_any K v b J wr h1 (by omega)
theorem ab_one : joinOf [] 97 98 = ((256, 0), [(⟨#[97, 98]⟩, 97, 98)]) := by decide +kernel
theorem ab_two : joinOf [(⟨#[97, 98]⟩, 97, 98)] 97 98 = ((0, 8), [(⟨#[97, 98]⟩, 97, 98)]) := by decide +kernel
theorem ab_text : txtOf [(⟨#[97, 98]⟩, 97, 98)] 256 = ⟨#[97, 98]⟩ ∧ thereOf [(⟨#[97, 98]⟩, 97, 98)] 256 = true := by decide +kernel
set_option maxRecDepth 100000 in
set_option maxHeartbeats 2000000 in
theorem awake_any (w : World) : Calls Try.prog 6 #[] w fun e w' => e = .returned (.bool true) ∧ Below w.heap.size w w' := by
  go_enter Try.func6, Try.ntmps6
  go_wp2_with fail
  refine (snew_any _).mono ?_
  rintro e w1 ⟨rfl, hw1⟩
  have HO : Hid (OwnT w w.heap.size [] w1) := Lib.hid (by rw [hw1]; exact OwnT.new (Below.refl _ w))
  clear hw1
  generalize w.heap.size = K at *
  have c1 := joinO_any w w1 K [] 97 98 HO.out (by simp) (by decide) (by decide) (by decide) (by decide)
  rw [ab_one] at c1
  go_wp2_with fail
  refine c1.mono ?_
  rintro e w2 ⟨rfl, ho⟩
  have HO2 := Lib.hid ho
  clear c1 ho
  have c2 := textO_any w w2 K _ 256 HO2.out (by simp) (by decide) (by decide)
  rw [ab_text.1, ab_text.2] at c2
  go_wp2_with fail
  refine c2.mono ?_
  rintro e w3 ⟨rfl, _, ho⟩
  have HO3 := Lib.hid ho
  clear c2 ho
  have c3 := joinO_any w w3 K _ 97 98 HO3.out (by simp) (by decide) (by decide) (by decide) (by decide)
  rw [ab_two] at c3
  go_wp2_with fail
  refine c3.mono ?_
  rintro e w4 ⟨rfl, ho⟩
  have HO4 := Lib.hid ho.bel
  clear c3 ho
  go_wp2
  go_ret
  exact ⟨rfl, HO4.out⟩
end Go.Proofs.Ytgjailjnnbpbdaa
