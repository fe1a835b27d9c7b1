/- The walk of CorpusReads. -/
import Derived.Test.YtfajhjppbecjaaaAwake
namespace Go.Proofs.Ytfajhjppbecjaaa
open Go.RowKit

/-- What the law keeps: few's block F, the row r of the words W; all that lies from B on may change. -/
def RS (w : World) (B F few : Nat) (r : Value) (W : List (List UInt8)) (w' : World) : Prop :=
  w.heap.size ≤ B ∧ B ≤ w'.heap.size ∧ Below w.heap.size w w' ∧ F < B ∧ w'.heap[F]? = some (.cells #[.int .u8 (few : Int)] 5 (0, 0)) ∧ (∃ b, ownS w' b r W) ∧ ∀ g, r.ownBlock = some g → g < B
theorem RS.next {w : World} {B F few : Nat} {r : Value} {W : List (List UInt8)} {a b : World} {S : Nat → Prop} (h : RS w B F few r W a) (hk : Kept S a b) (hS : ∀ k, S k → B ≤ k) : RS w B F few r W b := by
  obtain ⟨h1, h2, h3, h4, h5, ⟨bb, h6⟩, h7⟩ := h
  have hb : ∀ k, k < B → b.heap[k]? = a.heap[k]? := fun k hk' => hk.block k (by omega) (fun h => by have := hS k h; omega)
  exact ⟨h1, Nat.le_trans h2 hk.size, Below.kept h3 hk (fun i hi => Nat.le_trans h1 (hS i hi)) h3.size, h4, (hb F h4).trans h5, ⟨bb, h6.kept fun g hg => hb g (h7 g hg)⟩, h7⟩
theorem RS.below {w : World} {B F few : Nat} {r : Value} {W : List (List UInt8)} {a b : World} (h : RS w B F few r W a) (hb : Below a.heap.size a b) : RS w B F few r W b :=
  h.next (S := fun _ => False) (Kept.of_below hb (Nat.le_refl _)) fun _ h => h.elim
theorem RS.drewN {w : World} {B F few : Nat} {r : Value} {W : List (List UInt8)} {a : World} (h : RS w B F few r W a) (n : Nat) : RS w B F few r W (a.drewN n) := h.next (S := fun _ => False) ((Kept.refl _ a).drewN n) fun _ h => h.elim
theorem RS.alloc {w : World} {B F few : Nat} {r : Value} {W : List (List UInt8)} {a : World} (h : RS w B F few r W a) (o : Obj) : RS w B F few r W (a.alloc o) := h.next (S := fun _ => False) ((Kept.refl _ a).alloc o) fun _ h => h.elim
theorem RS.texts {w : World} {B F few : Nat} {r : Value} {W : List (List UInt8)} {a : World} (h : RS w B F few r W a) : strsAt a r W := by
  obtain ⟨_, _, _, _, _, ⟨b, h6⟩, _⟩ := h
  exact h6.reads
theorem strsAt.rs {w : World} {B F few : Nat} {r x : Value} {W P : List (List UInt8)} {a : World} (hx : strsAt w x P) (h : RS w B F few r W a) : strsAt a x P := hx.below h.2.2.1
theorem spec_full {n : Int} {P W : List (List UInt8)} {f : Int} {c : Nat} (h : SpecOf n (failing P f) (ahead P f).flatten W c) : SpecOf n (failing P f) (full (ahead P f)).flatten W c := by
  rw [full_flat]; exact h
/-- A counter, new. -/
theorem cnt_new {w : World} {F few : Nat} (hF : w.heap[F]? = some (.cells #[.int .u8 (few : Int)] 5 (0, 0))) :
    CntD w.heap.size F few ((w.alloc (.cells #[.int .i64 0] 3)).setCell ⟨w.heap.size, 0, none⟩ (.int .i64 0)) (fun k => k = w.heap.size ∨ k = F) [] := by
  have hlt : F < w.heap.size := (Array.getElem?_eq_some_iff.1 hF).1
  refine ⟨rfl, by omega, ?_, ?_⟩
  · rw [heap_setCell_at (heap_alloc_new w _)]; rfl
  · exact ((Below.heap_setCell _ _ _ _ (by show F ≠ w.heap.size; omega)).trans (Below.heap_alloc _ _ _ hlt)).trans hF
set_option maxRecDepth 100000 in
set_option maxHeartbeats 2000000 in
theorem corpusReads_walk (x : Value) (f n fw : Int) (P : List (List UInt8)) (w : World) (hx : strsAt w x P) (hcap : ∀ a n c, x = .slice a n c → n ≤ c) (hlen : P.length ≤ 8796093022208)
    (hlo : -9223372036854775808 ≤ n) (hhi : n ≤ 9223372036854775807) (hf0 : 0 ≤ fw) (hf1 : fw ≤ 255) :
    Calls Try.prog 3 #[x, .int .i64 f, .int .i64 n, .int .u8 fw] w fun e w' => e = .returned (.bool true) ∧ Below w.heap.size w w' := by
  obtain ⟨few, rfl⟩ : ∃ few : Nat, fw = (few : Int) := ⟨fw.toNat, by omega⟩
  have HX := Lib.hid hx; have HCAP := Lib.hid hcap
  clear hx hcap
  go_enter Try.func3, Try.ntmps3
  go_wp2_with fail
  refine (awake_any _).mono ?_
  rintro _ w1 ⟨rfl, hb1⟩
  have hB1 : Below w.heap.size w w1 := ((Below.refl _ w).alloc (Nat.le_refl _) _).trans (hb1.mono (by simp))
  have HF1 : Hid (w1.heap[w.heap.size]? = some (.cells #[.int .u8 (few : Int)] 5 (0, 0))) := Lib.hid ((hb1.block _ (by simp)).trans (heap_alloc_new w _))
  have hX1 : strsAt w1 x P := HX.out.below hB1
  clear hb1
  go_wp2_with fail
  refine (great_any x P w1 hX1 hlen).mono ?_
  rintro _ w2 ⟨⟨b, rfl, hgr⟩, rfl⟩
  cases b
  case true =>
    go_wp2
    go_ret
    exact ⟨rfl, hB1⟩
  case false =>
    obtain ⟨hPl, hPf⟩ := hgr rfl
    clear hgr
    obtain ⟨W, c, hW⟩ := specOf_ex n (failing P f) (ahead P f).flatten
    have hWl : W.length ≤ 3000 := Nat.le_trans (specOf_len hW) (Nat.le_trans (ahead_flat P f) hPf)
    have HFL : Hid ((full (ahead P f)).flatten.length ≤ 1000000) := Lib.hid (by rw [full_flat]; have := ahead_flat P f; omega)
    have HW := Lib.hid hW
    clear hW
    go_wp2_with fail
    refine (refRead_as x f n P W c _ hlo hhi hX1 (by omega) hPf HW.out).mono ?_
    rintro _ w2 ⟨r2, rfl, ho2, hb2⟩
    obtain ⟨a2, cap2, rfl⟩ := ho2.form2
    have HR2 : Hid (RS w w2.heap.size w.heap.size few (.slice a2 W.length cap2) W w2) := Lib.hid ⟨Nat.le_trans hB1.size hb2.size, Nat.le_refl _, hB1.trans (hb2.mono hB1.size), by have h1 := (Array.getElem?_eq_some_iff.1 HF1.out).1; have h2 := hb2.size; omega, (hb2.block _ (Array.getElem?_eq_some_iff.1 HF1.out).1).trans HF1.out, ⟨_, ho2⟩, fun g hg => (ho2.lt g hg).2⟩
    clear ho2 hb2
    go_wp2_with fail
    refine (srcNew_any x f P w2 (HX.out.rs HR2.out) HCAP.out (by omega) (by omega)).mono ?_
    rintro _ w3 ⟨rfl, ⟨v3, hS3⟩, hb3⟩
    have HS3 := Lib.hid hS3
    have HR3 := Lib.hid (HR2.out.below hb3)
    clear hS3 hb3
    go_wp2_with fail
    refine (read_script n w3 _ _ _ _ c v3 _ W HS3.out hlo hhi HFL.out (spec_full HW.out)).mono ?_
    rintro _ w4 ⟨v4, L4, rfl, ho4, hL4, hk4⟩
    obtain ⟨a4, cap4, rfl⟩ := ho4.form2
    have HR4 := Lib.hid (HR3.out.next hk4 fun k hk => hk)
    have HO4 := Lib.hid ho4
    clear ho4 hk4
    by_cases hc : (c : Int) = 0
    case' pos =>
      obtain rfl : W = L4 := by rcases hL4 with ⟨_, h⟩ | ⟨h, _⟩; exact h.symm; omega
      clear hL4
      go_wp2_with fail
      refine (texts_any _ _ W W _ HO4.out.reads HR4.out.texts (by omega)).mono ?_
      rintro _ w5 ⟨rfl, d5, rfl⟩
      have hd : decide (W = W) = true := decide_eq_true rfl
      rw [hd]; clear hd
      have HR5 := Lib.hid (HR4.out.drewN d5)
      have HA5 : Hid (AppD w4.heap.size ((w4.drewN d5).alloc (.cells #[.slice none 0 0] 22)) (fun k => k = w4.heap.size) []) := Lib.hid (appD_new (w4.drewN d5))
    case' neg =>
      obtain rfl : L4 = [] := by rcases hL4 with ⟨h, _⟩ | ⟨_, h⟩; omega; exact h
      clear hL4
      have HR5 := HR4
      have HA5 : Hid (AppD w4.heap.size (w4.alloc (.cells #[.slice none 0 0] 22)) (fun k => k = w4.heap.size) []) := Lib.hid (appD_new w4)
    all_goals
      have HR6 := Lib.hid (HR5.out.alloc (.cells #[.slice none 0 0] 22))
      go_wp2_with fail
      refine (srcNew_any x f P _ (HX.out.rs HR6.out) HCAP.out (by omega) (by omega)).mono ?_
      rintro _ w6 ⟨rfl, ⟨v6, hS6⟩, hb6⟩
      have hS6' : ∃ b6, w4.heap.size < b6 ∧ w2.heap.size ≤ b6 ∧ Scr w6 b6 (w4.heap.size + 1) v6 (ahead P f).flatten.length (failing P f) (full (ahead P f)) := by
        refine ⟨w4.heap.size + 1, by omega, Nat.le_trans HR4.out.2.1 (by omega), ?_⟩
        have := hS6
        rw [World.size_alloc] at this
        exact this
      obtain ⟨b6, hb64, hb62, hS6''⟩ := hS6'
      have HS6 := Lib.hid hS6''
      have HA6 : Hid (AppD w4.heap.size w6 (fun k => k = w4.heap.size) []) := Lib.hid ((app_doer2 _).kept HA5.out hb6.size fun k hk => hb6.block k ((app_doer2 _).lt HA5.out k hk))
      have HR7 := Lib.hid (HR6.out.below hb6)
      clear hS6 hS6'' hb6
      go_wp2_with fail
      refine (each_script _ 1048576 _ (app_doer2 w4.heap.size) n w6 (fun k => k = w4.heap.size) _ _ _ _ c v6 _ W HS6.out hlo hhi HA6.out (by rintro k rfl; exact hb64) HFL.out (spec_full HW.out)).mono ?_
      rintro _ w7 ⟨S7, n7, c7, rfl, hr7, hd7, hk7, hs7⟩
      obtain ⟨rfl, rfl⟩ : n7 = W.length ∧ c = c7 := by rcases hr7 with ⟨_, h1, h2⟩ | ⟨h, _⟩; exact ⟨h1, h2.symm⟩; omega
      rw [List.take_length] at hd7
      obtain ⟨v7, hS7, hC7, ho7⟩ := hd7
      obtain ⟨a7, cap7, rfl⟩ := ho7.form2
      have hc7 : w7.cell? ⟨w4.heap.size, 0, none⟩ = some (.slice a7 W.length cap7) := by rw [Lib.cell_of_heap hC7]; rfl
      have HR8 := Lib.hid (HR7.out.next hk7 (fun k hk => by rcases hk with h | h; rw [h]; exact HR4.out.2.1; omega))
      have HO7 := Lib.hid ho7
      clear hr7 hk7 hs7 hS7 hC7 ho7
      go_wp2_with fail
      refine (texts_any _ _ W W _ HO7.out.reads HR8.out.texts (by omega)).mono ?_
      rintro _ w8 ⟨rfl, d8, rfl⟩
      have hd : decide (W = W) = true := decide_eq_true rfl
      rw [hd]; clear hd
      have HR9 := Lib.hid (HR8.out.drewN d8)
      have HC9 : Hid (CntD w7.heap.size w.heap.size few (((w7.drewN d8).alloc (.cells #[.int .i64 0] 3)).setCell ⟨w7.heap.size, 0, none⟩ (.int .i64 0)) (fun k => k = w7.heap.size ∨ k = w.heap.size) []) := Lib.hid (cnt_new HR9.out.2.2.2.2.1)
      have HR10 := Lib.hid ((HR9.out.alloc (.cells #[.int .i64 0] 3)).next (S := fun k => k = w7.heap.size) ((Kept.refl _ _).setCell ⟨w7.heap.size, 0, none⟩ (.int .i64 0) fun _ => rfl) (fun k hk => by rw [hk]; exact HR8.out.2.1))
      have hnC : ((w7.drewN d8).alloc (.cells #[.int .i64 0] 3)).heap[w7.heap.size]? = some (.cells #[.int .i64 0] 3 (0, 0)) := heap_alloc_new (w7.drewN d8) _
      have hnc : ((w7.drewN d8).alloc (.cells #[.int .i64 0] 3)).cell? ⟨w7.heap.size, 0, none⟩ = some (.int .i64 0) := by rw [Lib.cell_of_heap hnC]; rfl
      have hnf : ((w7.drewN d8).alloc (.cells #[.int .i64 0] 3)).frozen? ⟨w7.heap.size, 0, none⟩ = false := Lib.frozen_of_heap hnC 0
      clear hnC
      go_wp2_with fail
      refine (srcNew_any x f P _ (HX.out.rs HR10.out) HCAP.out (by omega) (by omega)).mono ?_
      rintro _ w9 ⟨rfl, ⟨v9, hS9⟩, hb9⟩
      have hS9' : Scr w9 (w7.heap.size + 1) (w7.heap.size + 1) v9 (ahead P f).flatten.length (failing P f) (full (ahead P f)) := by
        have := hS9
        rw [World.size_setCell, World.size_alloc] at this
        exact this
      have HS9 := Lib.hid hS9'
      have HC10 : Hid (CntD w7.heap.size w.heap.size few w9 (fun k => k = w7.heap.size ∨ k = w.heap.size) []) := Lib.hid ((cnt_doer _ _ few (by omega)).kept HC9.out hb9.size fun k hk => hb9.block k ((cnt_doer _ _ few (by omega)).lt HC9.out k hk))
      have HR11 := Lib.hid (HR10.out.below hb9)
      have hFlt : w.heap.size < w7.heap.size := Nat.lt_of_lt_of_le HR8.out.2.2.2.1 HR8.out.2.1
      clear hS9 hS9' hb9
      go_wp2_with fail
      refine (each_script _ few _ (cnt_doer w7.heap.size w.heap.size few (by omega)) n w9 (fun k => k = w7.heap.size ∨ k = w.heap.size) _ _ _ _ c v9 _ W HS9.out hlo hhi HC10.out (by rintro k (rfl | rfl) <;> omega) HFL.out (spec_full HW.out)).mono ?_
      rintro _ w10 ⟨S10, n10, c10, rfl, hr10, hd10, hk10, hs10⟩
      obtain ⟨_, _, hC, hF⟩ := hd10
      have hcC : w10.cell? ⟨w7.heap.size, 0, none⟩ = some (.int .i64 ((W.take n10).length : Int)) := by rw [Lib.cell_of_heap hC]; rfl
      have hcF : w10.cell? ⟨w.heap.size, 0, none⟩ = some (.int .u8 (few : Int)) := by rw [Lib.cell_of_heap hF]; rfl
      have HB10 : Hid (Below w.heap.size w w10) := Lib.hid (Below.kept HR11.out.2.2.1 hk10 (fun i hi => by omega) HR11.out.2.2.1.size)
      clear hC hF hk10 hs10
      rcases hr10 with ⟨hle, rfl, hcc⟩ | ⟨hlt, rfl, rfl⟩
      · obtain rfl : c = c10 := hcc.symm
        rw [List.length_take, Nat.min_self] at hcC
        go_wp2
        go_ret
        exact ⟨rfl, HB10.out⟩
      · have htk : (W.take (few + 1)).length = few + 1 := by rw [List.length_take]; omega
        rw [htk] at hcC
        go_wp2
        go_ret
        exact ⟨rfl, HB10.out⟩
end Go.Proofs.Ytfajhjppbecjaaa
