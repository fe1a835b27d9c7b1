/- The document's example of layer 3. -/
import Derived.Test.YtkkpjbhnakbipaaSWords
import Derived.Test.YtkkpjbhnakbipaaTexts
import Derived.Lib.SlBytesConst
namespace Go.Proofs.Ytkkpjbhnakbipaa
open Go.RowKit

theorem lit_bytes (w : World) (l : List UInt8) (n : Nat) (fr : Nat × Nat) (hn : n = l.length) : bytesAt (w.alloc (.cells (bcells l).toArray 5 fr)) (.slice (some ⟨w.heap.size, 0, none⟩) n n) l := by
  subst hn
  refine ⟨w.heap.size, _, (bcells l).toArray, fr, rfl, heap_alloc_new w _, fun j hj => ?_⟩
  simp [bcells, List.getElem?_eq_getElem hj]
/-- Feed, where no word gets too long. -/
theorem feed_fits (x : Value) (w : World) (base K lim : Nat) (v : Value) (h l : List UInt8) (N : List (List UInt8)) (hS : Spl w base K lim v (opn h) false) (hf : fits lim (h ++ l)) (hN : ended (h ++ l) = ended h ++ N) (hx : bytesAt w x l) (hxv : x.ownBlock ≠ v.ownBlock) (hlen : h.length + l.length ≤ 1048576) :
    Calls Try.prog 17 #[.pointer (some ⟨K, 0, none⟩), x] w fun e w' => ∃ r v', e = .returned (.tuple #[r, .bool true]) ∧ ownS w' w.heap.size r N ∧ Spl w' base K lim v' (opn (h ++ l)) false ∧ Kept (mine K v) w w' ∧ Moved v v' w.heap.size := by
  refine (feed_any x w base K lim v h l hS (fits_append hf) hx hxv hlen).mono ?_
  rintro e w3 ⟨r, N', b, v3, o, rfl, hres, hown3, hS3, hk3, hm3⟩
  rcases hres with ⟨rfl, _, h3, rfl⟩ | ⟨_, _, k, hk, _⟩
  · have : N' = N := List.append_cancel_left (h3.symm.trans hN)
    subst this
    exact ⟨r, v3, rfl, hown3, hS3, hk3, hm3⟩
  · exact absurd hf (longAt_not hk)
/-- A row of one text that was laid out. -/
theorem lit_text (w : World) (l : List UInt8) : strsAt (w.alloc (.cells #[.string ⟨l.toArray⟩] 9)) (.slice (some ⟨w.heap.size, 0, none⟩) 1 1) [l] := by
  refine ⟨_, _, rfl, fun j hj => ⟨_, rfl, ?_⟩⟩
  have hj0 : j = 0 := by simp at hj; exact hj
  subst hj0
  rw [add_zero_off, cell_of_row _ _ 0 _ 9 (0, 0) (heap_alloc_new w _)]
  rfl
theorem strsAt.kept {w w' : World} {v : Value} {L : List (List UInt8)} (h : strsAt w v L) (hk : ∀ a n c, v = .slice (some a) n c → w'.heap[a.block]? = w.heap[a.block]?) : strsAt w' v L := by
  obtain ⟨a, cap, rfl, hc⟩ := h
  refine ⟨a, cap, rfl, fun j hj => ?_⟩
  obtain ⟨ad, rfl, hc'⟩ := hc j hj
  refine ⟨ad, rfl, ?_⟩
  rw [← hc']
  have hb : (ad.add j).block = ad.block := by unfold Addr.add; split <;> rfl
  exact World.cell?_of_block (by rw [hb]; exact hk ad _ _ rfl)

theorem ownS.form2 {w : World} {b : Nat} {r : Value} {A : List (List UInt8)} (h : ownS w b r A) : ∃ a cap, r = .slice a A.length cap := by
  rcases h.form with ⟨rfl, rfl⟩ | ⟨g, cap, rfl, _⟩
  · exact ⟨none, 0, rfl⟩
  · exact ⟨_, cap, rfl⟩
theorem below_drewN' {B : Nat} {a w : World} (h : Below B a w) (n : Nat) : Below B a (w.drewN n) := ⟨h.os, h.tape, h.output, h.size, h.block⟩
theorem Below.kept {B : Nat} {S : Nat → Prop} {a w w' : World} (h : Below B a w) (k : Kept S w w') (hS : ∀ i, S i → B ≤ i) (hB : B ≤ w.heap.size) : Below B a w' := h.trans (k.below hB hS)
set_option maxHeartbeats 400000 in
theorem awake_any (w : World) : Calls Try.prog 7 #[] w fun e w' => e = .returned (.bool true) ∧ Below w.heap.size w w' := by
  obtain ⟨w1, hw1⟩ : ∃ w1, w1 = w.alloc (.cells #[.int .i64 ((9 : Nat) : Int), .slice none 0 0, .bool false] 44) := ⟨_, rfl⟩
  have hS1 : Spl w1 w.heap.size w.heap.size 9 (.slice none 0 0) [] false := by rw [hw1]; exact new_spl w _ 9 (Nat.le_refl _)
  have hb1 : Below w.heap.size w w1 := by rw [hw1]; exact (Below.refl _ _).alloc (Nat.le_refl _) _
  have HS1 := Lib.hid hS1
  have HW1 := Lib.hid hw1
  clear hw1 hS1
  have hcs := fun (w : World) (C : Array Value) (n c : Nat) => Lib.run_convert_bytes_const (P := Try.prog) w 35 5 C n c Try.underlying35 Try.underlying5
  go_enter Try.func7, Try.ntmps7
  go_wp2_with (go_at_call 14; refine (new_any 9 9 _ (by omega) (by omega) (by omega)).mono ?_; rintro e w' ⟨rfl, hw'⟩; rw [← HW1.out] at hw'; subst hw')
  refine (feed_fits _ _ w.heap.size _ 9 (.slice none 0 0) [] [97] [] ?_ (fits_all (by decide)) rfl (lit_bytes w' [97] 1 _ rfl) ?_ (by decide)).mono ?_
  · exact HS1.out.kept fun k hk => Below.heap_alloc _ _ _ (HS1.out.mine_lt k hk)
  · exact new_bytes_ne HS1.out rfl
  rintro e w3 ⟨r3, v3, rfl, hown3, hS3, hk3, hm3⟩
  obtain ⟨a3, c3, rfl⟩ := hown3.form2
  have HO3 := Lib.hid hown3; have HS3 := Lib.hid hS3; clear hown3 hS3
  go_wp2_with fail
  refine (feed_fits _ _ w.heap.size _ 9 v3 [97] [98, 32, 99] [[97, 98]] ?_ (fits_all (by decide)) rfl (lit_bytes w3 [98, 32, 99] 3 _ rfl) ?_ (by decide)).mono ?_
  · exact HS3.out.kept fun k hk => Below.heap_alloc _ _ _ (HS3.out.mine_lt k hk)
  · exact new_bytes_ne HS3.out rfl
  rintro e w4 ⟨r4, v4, rfl, hown4, hS4, hk4, hm4⟩
  have HO4 := Lib.hid hown4; have HS4 := Lib.hid hS4; clear hown4 hS4
  go_wp2_with fail
  refine (texts_any _ _ [[97, 98]] [[97, 98]] _ ((ownS.kept HO4.out (fun g hg => Below.heap_alloc _ _ _ (HO4.out.lt g hg).2)).reads) (lit_text w4 [97, 98]) (by decide)).mono ?_
  rintro e w5 ⟨rfl, n, rfl⟩
  have hS5 : Spl ((w4.alloc (.cells #[.string ⟨#[97, 98]⟩] 9)).drewN n) w.heap.size w.heap.size 9 v4 [99] false := HS4.out.kept fun k hk => Below.heap_alloc _ _ _ (HS4.out.mine_lt k hk)
  have HS5 := Lib.hid hS5; clear hS5
  go_wp2_with fail
  refine (end_any _ _ _ _ _ _ _ HS5.out (by decide)).mono ?_
  rintro e w6 ⟨r6, v6, rfl, hown6, hS6, hv6, hk6⟩
  have HO6 := Lib.hid hown6; have HS6 := Lib.hid hS6; clear hown6 hS6
  go_wp2_with fail
  refine (texts_any _ _ [[99]] [[99]] _ ((ownS.kept HO6.out (fun g hg => Below.heap_alloc _ _ _ (HO6.out.lt g hg).2)).reads) (lit_text w6 [99]) (by decide)).mono ?_
  rintro e w7 ⟨rfl, m, rfl⟩
  go_wp2
  go_ret
  refine ⟨rfl, ?_⟩
  have z1 := hb1.size
  have g1 := hb1.alloc z1 (.cells (bcells [97]).toArray 5 (1, 2))
  have g3 := Below.kept g1 hk3 HS1.out.mine_ge g1.size
  have g4 := g3.alloc g3.size (.cells (bcells [98, 32, 99]).toArray 5 (3, 4))
  have g5 := Below.kept g4 hk4 HS3.out.mine_ge g4.size
  have g6 := below_drewN' (g5.alloc g5.size (.cells #[.string ⟨#[97, 98]⟩] 9)) n
  have g7 := Below.kept g6 hk6 HS4.out.mine_ge g6.size
  exact below_drewN' (g7.alloc g7.size _) m
end Go.Proofs.Ytkkpjbhnakbipaa
