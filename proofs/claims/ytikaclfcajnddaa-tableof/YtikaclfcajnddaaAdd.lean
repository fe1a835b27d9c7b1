/- Add of a counter. -/
import Derived.Test.YtikaclfcajnddaaCnt
namespace Go.Proofs.Ytikaclfcajnddaa
open Go.RowKit Go.Maps

theorem eqMap_none (w : World) : (binOp .eql 60 (.map none) (.map none)).run Try.prog w = .ok (.bool true) w := by kernel_rfl
theorem eqMap_some (m : Nat) (w : World) : (binOp .eql 60 (.map (some m)) (.map none)).run Try.prog w = .ok (.bool false) w := by kernel_rfl
/-- What Add leaves. -/
def AddRet (K : Nat) (b : Option Nat) (L : Bag) (w : World) (w' : World) : Prop := ∃ b', Cnt w' K b' L ∧ Kept (mineC K b) w w' ∧ (b' = b ∨ ∃ m, b' = some m ∧ w.heap.size ≤ m)
theorem AddRet.refl {K : Nat} {b : Option Nat} {L : Bag} {w : World} (h : Cnt w K b L) : AddRet K b L w w := ⟨b, h, Kept.refl _ _, .inl rfl⟩
theorem mineC_next {K : Nat} {b b' : Option Nat} {n i : Nat} (h : b' = b ∨ ∃ m, b' = some m ∧ n ≤ m) (hi : i < n) (hm : mineC K b' i) : mineC K b i := by
  rcases hm with e | e
  · exact .inl e
  · rcases h with rfl | ⟨m, rfl, hm⟩
    · exact .inr e
    · cases e; omega
theorem AddRet.trans {K : Nat} {b b' : Option Nat} {L : Bag} {w w1 w2 : World} (hk : Kept (mineC K b) w w1) (hb : b' = b ∨ ∃ m, b' = some m ∧ w.heap.size ≤ m) (h : AddRet K b' L w1 w2) : AddRet K b L w w2 := by
  obtain ⟨b2, hc, hk2, hb2⟩ := h
  refine ⟨b2, hc, hk.trans hk2 fun i hi hm => mineC_next hb hi hm, ?_⟩
  rcases hb2 with rfl | ⟨m, rfl, hm⟩
  · exact hb
  · exact .inr ⟨m, rfl, Nat.le_trans hk.size hm⟩
/-- A map made and laid into the counter. -/
theorem made_cnt {w : World} {K : Nat} (h : Cnt w K none []) : Cnt ((w.alloc (.map #[] 0)).setCell ⟨K, 0, none⟩ (.map (some w.heap.size))) K (some w.heap.size) [] := by
  have hK := h.lt
  have h1 : (w.alloc (.map #[] 0)).heap[K]? = some (.cells #[.map none] 62 (0, 0)) := (Below.heap_alloc w _ K hK).trans h.1
  refine ⟨heap_setCell_at h1 _, sound_nil, ?_⟩
  exact (World.ownsMap_made w Try.prog 9 (plainElem (H := Unit) Try.prog 3)).setCell (by show w.heap.size ≠ K; omega) _
set_option maxHeartbeats 1000000 in
theorem cadd_any (K : Nat) (b : Option Nat) (L : Bag) (s : ByteArray) (n : Int) (w : World) (h : Cnt w K b L) (hs : s.size ≤ 9223372036854775807) (n0 : -9223372036854775808 ≤ n) (n1 : n ≤ 9223372036854775807) (hl : L.length ≤ 1048576) :
    Calls Try.prog 31 #[.pointer (some ⟨K, 0, none⟩), .string s, .int .i64 n] w fun e w' => e = .returned (.int .i64 (addW L s n).2) ∧ AddRet K b (addW L s n).1 w w' := by
  have HN := Lib.hid h
  obtain ⟨c0, f0⟩ := h.cell
  have hlook := look_run h.2.2 s hs
  clear h
  by_cases he : s.size = 0
  · obtain rfl : s = ⟨#[]⟩ := empty_of (List.eq_nil_of_length_eq_zero (by rw [bs_size]; exact he))
    rw [addW_arg (.inl he)]
    go_enter Try.func31, Try.ntmps31
    go_wp2
    go_ret
    exact ⟨rfl, AddRet.refl HN.out⟩
  · have hs' : s.toList.isEmpty = false := some_text fun e => he (by rw [← bs_size, e]; rfl)
    by_cases hn : n < 1
    · rw [addW_arg (.inr hn)]
      go_enter Try.func31, Try.ntmps31
      go_wp2
      go_ret
      exact ⟨rfl, AddRet.refl HN.out⟩
    · obtain ⟨k0, k1⟩ := HN.out.2.1.count s
      have cA := fun w => add_any (countOf L s) n w (by omega) k1 n0 n1
      by_cases hk : countOf L s + n ≤ 9223372036854775807
      · rw [addW_ok (by omega) hk]
        rw [addOf_yes k0 (by omega) hk] at cA
        have HK := Lib.hid hk
        cases b with
        | none =>
          obtain rfl : L = [] := HN.out.2.2
          have HM := Lib.hid (made_cnt HN.out)
          obtain ⟨w2, hput, hmap, hg⟩ := put_run HM.out.2.2 HM.out.2.1.1 s (countOf [] s + n) hs (by simp) (by omega) (by omega)
          obtain ⟨c2, f2⟩ := HM.out.cell
          have hc2 : (w.alloc (.map #[] 0)).cell? ⟨K, 0, none⟩ = some (.map none) := by rw [← c0]; exact ((Below.refl _ w).alloc (Nat.le_refl _) _).cell HN.out.lt
          have hf2 : (w.alloc (.map #[] 0)).frozen? ⟨K, 0, none⟩ = false := Lib.frozen_of_heap ((Below.heap_alloc w _ K HN.out.lt).trans HN.out.1) 0
          have hmm := @run_makeMap Try.prog
          have hem := eqMap_none
          have HP := Lib.hid hmap
          have HG := Lib.hid hg
          clear hmap hg hk
          
          go_enter Try.func31, Try.ntmps31
          go_wp2_with (go_at_call 30; refine (cA _).mono ?_; rintro e w1 ⟨rfl, rfl⟩)
          go_ret
          refine ⟨rfl, some w1.heap.size, ⟨(HG.out.block K (by rw [World.size_setCell, World.size_alloc]; have := HN.out.lt; omega) (by intro e; cases e; have := HN.out.lt; omega)).trans HM.out.1, ?_, HP.out⟩, ?_, .inr ⟨_, rfl, Nat.le_refl _⟩⟩
          · have := HN.out.2.1.add n hs
            rwa [addW_ok (by omega) HK.out] at this
          · exact (((Kept.refl _ w1).alloc _).setCell _ _ fun _ => .inl rfl).grown HG.out fun k e hk => by cases e; omega
        | some m =>
          obtain ⟨w2, hput, hmap, hg⟩ := put_run HN.out.2.2 HN.out.2.1.1 s (countOf L s + n) hs hl (by omega) (by omega)
          have hem := eqMap_some m
          have HP := Lib.hid hmap
          have HG := Lib.hid hg
          have HQ : Hid (Sound (putW s (countOf L s + n) L)) := Lib.hid (by
            have := HN.out.2.1.add n hs
            rwa [addW_ok (by omega) hk] at this)
          clear hmap hg hk HK
          generalize putW s (countOf L s + n) L = M at *
          generalize countOf L s = c at *
          go_enter Try.func31, Try.ntmps31
          go_wp2_with (go_at_call 30; refine (cA _).mono ?_; rintro e w1 ⟨rfl, rfl⟩)
          go_ret
          refine ⟨rfl, some m, ⟨(HG.out.block K HN.out.lt ?_).trans HN.out.1, HQ.out, HP.out⟩, (Kept.refl _ w1).grown HG.out fun k e _ => .inr e.symm, .inl rfl⟩
          intro e
          cases e
          obtain ⟨es, clock, hb, _⟩ := HN.out.2.2
          have := HN.out.1
          rw [hb] at this; cases this
      · rw [addW_over (by omega) hk]
        rw [addOf_no fun k => hk k.2.2] at cA
        clear hk
        generalize countOf L s = c at *
        go_enter Try.func31, Try.ntmps31
        go_wp2_with (go_at_call 30; refine (cA _).mono ?_; rintro e w1 ⟨rfl, rfl⟩)
        go_ret
        exact ⟨rfl, AddRet.refl HN.out⟩
theorem kept_undrew {S : Nat → Prop} {w w' : World} (h : Kept S w.drew w') : Kept S w w' := ⟨h.os, h.tape, h.output, h.size, h.block⟩
theorem AddRet.undrew {K : Nat} {b : Option Nat} {L : Bag} {w w' : World} (h : AddRet K b L w.drew w') : AddRet K b L w w' := by
  obtain ⟨b', hc, hk, hb⟩ := h
  exact ⟨b', hc, kept_undrew hk, hb⟩
end Go.Proofs.Ytikaclfcajnddaa
