/- The walk of FreqOrder. -/
import Derived.Test.YtikdhlpmoldijaaPlaysWalk
import Derived.Test.YtikdhlpmoldijaaArgs16
namespace Go.Proofs.Ytikdhlpmoldijaa
open Go.RowKit Go.Maps

theorem own_none (w : World) : ownW (w.alloc (.cells #[] 30)) w.heap.size (.slice (some ⟨w.heap.size, 0, none⟩) 0 0) [] :=
  ⟨rfl, .inr ⟨w.heap.size, 0, #[], rfl, Nat.le_refl _, heap_alloc_new w _, Nat.le_refl _, Nat.zero_le _, rfl, rfl⟩⟩
theorem wcells_set (s : ByteArray) (c : Int) : ∀ (M : Bag) (p : Nat), wcells (M.set p (s, c)) = ((wcells M).set (p * 2) (.string s)).set (p * 2 + 1) (.int .i64 c)
  | [], p => by simp [wcells]
  | q :: r, 0 => rfl
  | q :: r, p + 1 => by
    have ih := wcells_set s c r p
    have e1 : (p + 1) * 2 = p * 2 + 1 + 1 := by omega
    have e2 : (p + 1) * 2 + 1 = p * 2 + 1 + 1 + 1 := by omega
    rw [List.set_cons_succ]
    show Value.string q.1 :: Value.int .i64 q.2 :: wcells (r.set p (s, c)) = _
    rw [ih, e2, e1]
    rfl
/-- An owned row, written at one word. -/
theorem ownW.store {w : World} {b g n cap : Nat} {M : Bag} (h : ownW w b (.slice (some ⟨g, 0, none⟩) n cap) M) (p : Nat) (s : ByteArray) (c : Int) :
    ownW ((w.setCell ⟨g, p * 2, none⟩ (.string s)).setCell ⟨g, p * 2 + 1, none⟩ (.int .i64 c)) b (.slice (some ⟨g, 0, none⟩) n cap) (M.set p (s, c)) := by
  rcases h.2 with ⟨h0, _⟩ | ⟨g', cap', cur, hv, hb, hg, h1, h2, h3, h4⟩
  · cases h0
  · cases hv
    refine ⟨by rw [wcells_len], .inr ⟨g, cap, (cur.setIfInBounds (p * 2) (.string s)).setIfInBounds (p * 2 + 1) (.int .i64 c), by simp, hb, heap_setCell_at (heap_setCell_at hg _) _, by simpa using h1, by simpa using h2, by simpa using h3, ?_⟩⟩
    rw [List.length_set, Array.toList_setIfInBounds, Array.toList_setIfInBounds, List.take_set, List.take_set, h4, wcells_set]
theorem rowW.cells2 {w : World} {g n j : Nat} (h : rowW w g n) (hj : j < n) : (∃ u, w.cell? ⟨g, j * 2 + 1, none⟩ = some u) ∧ w.frozen? ⟨g, j * 2 + 1, none⟩ = false := by
  obtain ⟨cs, hg, h1⟩ := h
  refine ⟨⟨cs[j * 2 + 1], ?_⟩, Lib.frozen_of_heap hg _⟩
  rw [cell_of_row w g _ cs 30 (0, 0) hg, Array.getElem?_eq_getElem (by omega)]
/-- Two words laid apart. -/
theorem boxes {w wp : World} {b : Nat} {v : Value} {M : Bag} (ho : ownW wp b v M) (hb : Below w.heap.size w wp) (s1 s2 : ByteArray) (c1 c2 : Int) :
    ((wp.alloc (.cells #[.string s1, .int .i64 c1] 30)).alloc (.cells #[.string s2, .int .i64 c2] 30)).drew.cell? ⟨wp.heap.size, 0, none⟩ = some (.string s1) ∧
    ((wp.alloc (.cells #[.string s1, .int .i64 c1] 30)).alloc (.cells #[.string s2, .int .i64 c2] 30)).drew.cell? ⟨wp.heap.size, 1, none⟩ = some (.int .i64 c1) ∧
    ((wp.alloc (.cells #[.string s1, .int .i64 c1] 30)).alloc (.cells #[.string s2, .int .i64 c2] 30)).drew.cell? ⟨wp.heap.size + 1, 0, none⟩ = some (.string s2) ∧
    ((wp.alloc (.cells #[.string s1, .int .i64 c1] 30)).alloc (.cells #[.string s2, .int .i64 c2] 30)).drew.cell? ⟨wp.heap.size + 1, 1, none⟩ = some (.int .i64 c2) ∧
    ownW ((wp.alloc (.cells #[.string s1, .int .i64 c1] 30)).alloc (.cells #[.string s2, .int .i64 c2] 30)).drew b v M ∧
    Below w.heap.size w ((wp.alloc (.cells #[.string s1, .int .i64 c1] 30)).alloc (.cells #[.string s2, .int .i64 c2] 30)).drew := by
  have h1 : ((wp.alloc (.cells #[.string s1, .int .i64 c1] 30)).alloc (.cells #[.string s2, .int .i64 c2] 30)).drew.heap[wp.heap.size]? = some (.cells #[.string s1, .int .i64 c1] 30 (0, 0)) :=
    (Below.heap_alloc _ _ _ (by rw [World.size_alloc]; omega)).trans (heap_alloc_new wp _)
  have h2 : ((wp.alloc (.cells #[.string s1, .int .i64 c1] 30)).alloc (.cells #[.string s2, .int .i64 c2] 30)).drew.heap[wp.heap.size + 1]? = some (.cells #[.string s2, .int .i64 c2] 30 (0, 0)) := by
    have := heap_alloc_new (wp.alloc (.cells #[.string s1, .int .i64 c1] 30)) (.cells #[.string s2, .int .i64 c2] 30)
    rw [World.size_alloc] at this
    exact this
  refine ⟨?_, ?_, ?_, ?_, ((ho.alloc _).alloc _).drew, ((hb.alloc hb.size _).alloc (by rw [World.size_alloc]; have := hb.size; omega) _).drew⟩
  · rw [cell_of_row _ _ 0 _ 30 (0, 0) h1]; rfl
  · rw [cell_of_row _ _ 1 _ 30 (0, 0) h1]; rfl
  · rw [cell_of_row _ _ 0 _ 30 (0, 0) h2]; rfl
  · rw [cell_of_row _ _ 1 _ 30 (0, 0) h2]; rfl
def SwapRel (L : Bag) (Z : List Int) (w : World) (r i : Value) (wr : World) : Prop :=
  ∃ (k : Nat) (M : Bag), i = .int .i64 (k : Int) ∧ k ≤ Z.length ∧ M.Perm L ∧ ownW wr w.heap.size r M ∧ Below w.heap.size w wr
theorem words_head {w : World} {a : Option Addr} {n cap c : Nat} {M : Bag} (h : wordsAt w (.slice a n cap) M) (hc : c ≤ M.length) : wordsAt w (.slice a c cap) (M.take c) := by
  obtain ⟨a', cap', e, hcs⟩ := h
  cases e
  refine ⟨a, cap, by rw [List.length_take, Nat.min_eq_left hc], fun j hj => ?_⟩
  rw [List.length_take] at hj
  obtain ⟨ad, rfl, hb, h1, h2⟩ := hcs j (by omega)
  exact ⟨ad, rfl, hb, by rw [h1, List.getElem_take], by rw [h2, List.getElem_take]⟩
theorem words_tail {w : World} {a : Option Addr} {n cap c : Nat} {M : Bag} (h : wordsAt w (.slice a n cap) M) (hcap : n ≤ cap) : wordsAt w (.slice (if cap = c then a else a.map fun x => x.add (c * 2)) (n - c) (cap - c)) (M.drop c) := by
  obtain ⟨a', cap', e, hcs⟩ := h
  cases e
  refine ⟨_, cap - c, by rw [List.length_drop], fun j hj => ?_⟩
  rw [List.length_drop] at hj
  obtain ⟨ad, rfl, hb, h1, h2⟩ := hcs (c + j) (by omega)
  have e1 : (ad.add (c * 2)).add (j * 2) = ad.add ((c + j) * 2) := by rw [add_add_any, Nat.add_mul]
  refine ⟨ad.add (c * 2), by rw [if_neg (by omega)]; rfl, by rw [add_block]; exact hb, ?_, ?_⟩
  · rw [e1, h1]; simp
  · rw [e1, h2]; simp
/-- Three lists, as a row of lists. -/
theorem three_rows {w : World} {v0 v1 v2 : Value} {A B C : Bag} (h0 : wordsAt w v0 A) (h1 : wordsAt w v1 B) (h2 : wordsAt w v2 C) : rowsAt (w.alloc (.cells #[v0, v1, v2] 22)).drew (.slice (some ⟨w.heap.size, 0, none⟩) 3 3) [A, B, C] := by
  have hb : Below w.heap.size w (w.alloc (.cells #[v0, v1, v2] 22)).drew := ((Below.refl _ w).alloc (Nat.le_refl _) _).drew
  have hh : (w.alloc (.cells #[v0, v1, v2] 22)).drew.heap[w.heap.size]? = some (.cells #[v0, v1, v2] 22 (0, 0)) := heap_alloc_new w _
  have hs : w.heap.size < (w.alloc (.cells #[v0, v1, v2] 22)).drew.heap.size := (Array.getElem?_eq_some_iff.1 hh).1
  refine ⟨_, 3, rfl, fun j hj => ?_⟩
  match j, hj with
  | 0, _ => exact ⟨_, _, rfl, hs, by rw [add_zero_off, cell_of_row _ _ 0 _ 22 (0, 0) hh]; rfl, h0.below hb (Nat.le_refl _)⟩
  | 1, _ => exact ⟨_, _, rfl, hs, by rw [add_zero_off, cell_of_row _ _ 1 _ 22 (0, 0) hh]; rfl, h1.below hb (Nat.le_refl _)⟩
  | 2, _ => exact ⟨_, _, rfl, hs, by rw [add_zero_off, cell_of_row _ _ 2 _ 22 (0, 0) hh]; rfl, h2.below hb (Nat.le_refl _)⟩
theorem swapRel_step {L M : Bag} {Z : List Int} {w wr : World} {g cap k p q : Nat} (hk : k < Z.length) (hM : M.Perm L) (hg : w.heap.size ≤ g) (hp : p < M.length) (hq : q < M.length)
    (ho : ownW wr w.heap.size (.slice (some ⟨g, 0, none⟩) L.length cap) M) (hb : Below w.heap.size w wr) :
    SwapRel L Z w (.slice (some ⟨g, 0, none⟩) L.length cap) (.int .i64 ((k : Int) + 1)) (((((wr.setCell ⟨g, p * 2, none⟩ (.string M[q].1)).setCell ⟨g, p * 2 + 1, none⟩ (.int .i64 M[q].2)).setCell ⟨g, q * 2, none⟩ (.string M[p].1)).setCell ⟨g, q * 2 + 1, none⟩ (.int .i64 M[p].2)).drew) := by
  refine ⟨k + 1, (M.set p M[q]).set q M[p], by simp, hk, (List.set_set_perm hp hq).trans hM, ((ho.store p M[q].1 M[q].2).store q M[p].1 M[p].2).drew, ((((hb.setCell hg _).setCell hg _).setCell hg _).setCell hg _).drew⟩
set_option maxRecDepth 100000 in
set_option maxHeartbeats 4000000 in
theorem freqOrder_walk (v x : Value) (cut : Int) (w : World) (L : Bag) (Z : List Int) (hv : wordsAt w v L) (hx : u16sAt w x Z) (hL : L.length ≤ maxLen) (hZ : Z.length ≤ maxLen) (hf : Fits L) (hn : nilNone v) (u0 : 0 ≤ cut) (u1 : cut ≤ 65535) :
    Calls Try.prog 4 #[v, x, .int .u16 cut] w fun e w' => e = .returned (.bool true) ∧ Below w.heap.size w w' := by
  have HV := Lib.hid hv
  obtain ⟨aL, capL, rfl, _⟩ := hv
  obtain ⟨aZ, capZ, rfl, hcZ⟩ := hx
  have HZ := Lib.hid hcZ; have HN := Lib.hid hn
  clear hcZ hn
  unfold maxLen at hL hZ
  go_enter Try.func4, Try.ntmps4
  go_wp2_with fail
  refine (awake_any _).mono ?_
  rintro e w1 ⟨rfl, hb1⟩
  have HB1 := Lib.hid hb1
  have HV1 := Lib.hid (HV.out.below hb1 (Nat.le_refl _))
  clear hb1
  go_wp2_with fail
  refine (great_any _ L 100 _ HV1.out (by omega)).mono ?_
  rintro e w2 ⟨g, rfl, rfl, hg⟩
  cases g with
  | true =>
    go_wp2
    go_ret
    exact ⟨rfl, HB1.out⟩
  | false =>
    obtain ⟨hl, _⟩ := hg rfl
    clear hg
    by_cases hz1 : 200 < Z.length
    · have hzI : (200 : Int) < (Z.length : Int) := by omega
      go_wp2
      go_ret
      exact ⟨rfl, HB1.out⟩
    · have hzI : ¬ (200 : Int) < (Z.length : Int) := by omega
      clear hz1
      go_wp2_with (at_builtin; refine wpList_append_words rfl (.tmp 27) (.tmp 28) rfl w2.heap.size _ (.slice aL L.length capL) [] L rfl rfl (own_none w2) (HV1.out.below ((Below.refl _ w2).alloc (Nat.le_refl _) _) (Nat.le_refl _)) HN.out (by simp; omega) (by simp) ?_; intro r w3 hown3 hgr3 _; have hg3 : (w2.alloc (.cells #[] 30)).grownBy w3 (some w2.heap.size) := hgr3; clear hgr3; rw [List.nil_append] at hown3)
      have HB3 : Hid (Below w.heap.size w w3) := Lib.hid ((HB1.out.alloc HB1.out.size _).grown hg3 (by rw [World.size_alloc]; have := HB1.out.size; omega) fun g hg => by cases hg; exact HB1.out.size)
      have HO3 : Hid (ownW w3 w.heap.size r L) := Lib.hid (hown3.mono HB1.out.size)
      obtain ⟨a2, cap2, rfl, hcp2⟩ := hown3.form
      clear hown3 hg3
      go_loopw [8] (fun i wr => SwapRel L Z w (.slice a2 L.length cap2) i wr) (fun i _ => Z.length + 1 - (intOf i).toNat)
      case atStart => exact ⟨0, L, rfl, by omega, List.Perm.refl _, HO3.out, HB3.out⟩
      case round =>
        obtain ⟨k, M, rfl, hk, hM, hown, hbel⟩ := hrel
        have HM := Lib.hid hM; have HO := Lib.hid hown; have HB := Lib.hid hbel
        have HLM : Hid (M.length = L.length) := Lib.hid hM.length_eq
        clear hM hown hbel
        by_cases hgo : k < Z.length ∧ 0 < L.length
        · obtain ⟨hk1, hl1⟩ := hgo
          have hkI : (k : Int) < (Z.length : Int) := by omega
          have hlI : (0 : Int) < (L.length : Int) := by omega
          obtain ⟨g, rfl, hg⟩ := own_some HO.out (by rw [HLM.out]; exact hl1)
          obtain ⟨ad, rfl, hadb, hcell, q0, q1⟩ := HZ.out k hk1
          have hcell2 : wr.cell? (ad.add k) = some (.int .u16 Z[k]) := by
            rw [← hcell]
            exact HB.out.cell (by rw [add_block]; exact hadb)
          have hp0 := Int.emod_nonneg (k : Int) (b := (L.length : Int)) (by omega)
          have hp1 := Int.emod_lt_of_pos (k : Int) (b := (L.length : Int)) (by omega)
          have hq0 := Int.emod_nonneg Z[k] (b := (L.length : Int)) (by omega)
          have hq1 := Int.emod_lt_of_pos Z[k] (b := (L.length : Int)) (by omega)
          obtain ⟨p, hp⟩ : ∃ p : Nat, (k : Int) % (L.length : Int) = (p : Int) := ⟨((k : Int) % (L.length : Int)).toNat, by omega⟩
          obtain ⟨q, hq⟩ : ∃ q : Nat, Z[k] % (L.length : Int) = (q : Int) := ⟨(Z[k] % (L.length : Int)).toNat, by omega⟩
          have hpL : p < L.length := by omega
          have hqL : q < L.length := by omega
          have hpM : p < M.length := by rw [HLM.out]; exact hpL
          have hqM : q < M.length := by rw [HLM.out]; exact hqL
          clear hp0 hp1 hq0 hq1 hcell
          go_wp2
          go_quiet (fail)
          rw [hp, hq]
          have HOq : Hid (ownW (wr.drewN nq) w.heap.size (.slice (some ⟨g, 0, none⟩) L.length cap2) M) := Lib.hid (HO.out.drewN nq)
          have HBq := Lib.hid (below_drewN' HB.out nq)
          clear hp hq hcell2 HO HB
          generalize wr.drewN nq = wp at HOq HBq ⊢
          obtain ⟨cp, dp⟩ := words_at HOq.out.reads (Below.refl _ wp) hpM
          obtain ⟨cq, dq⟩ := words_at HOq.out.reads (Below.refl _ wp) hqM
          have hpI : (p : Int) < (L.length : Int) := by omega
          have hqI : (q : Int) < (L.length : Int) := by omega
          rw [add_zero_off] at cp dp cq dq
          have n1 := World.new_ne wp _ cp
          have n2 := World.new_ne wp _ dp
          have n3 := World.new_ne wp _ cq
          have n4 := World.new_ne wp _ dq
          go_wp2
          go_region_held3 (fun w' => w'.cell? ⟨g, p * 2, none⟩ = some (.string M[p].1) ∧ w'.cell? ⟨g, p * 2 + 1, none⟩ = some (.int .i64 M[p].2) ∧ w'.cell? ⟨g, q * 2, none⟩ = some (.string M[q].1) ∧ w'.cell? ⟨g, q * 2 + 1, none⟩ = some (.int .i64 M[q].2)) (go_keep) (fail)
          · obtain ⟨x0, x1, y0, y1, ho, hb⟩ := boxes HOq.out HBq.out M[p].1 M[q].1 M[p].2 M[q].2
            have HOs := Lib.hid ho; have HBs := Lib.hid hb
            have hgl := (HOq.out.lt g rfl).2
            have gx : g ≠ wp.heap.size := by omega
            have gz : g ≠ wp.heap.size + 1 := by omega
            have gx' : wp.heap.size ≠ g := by omega
            have gz' : wp.heap.size + 1 ≠ g := by omega
            clear ho hb cp dp cq dq n1 n2 n3 n4 hgl HOq HBq
            generalize ((wp.alloc (.cells #[.string M[p].1, .int .i64 M[p].2] 30)).alloc (.cells #[.string M[q].1, .int .i64 M[q].2] 30)).drew = ws at x0 x1 y0 y1 HOs HBs ⊢
            generalize wp.heap.size + 1 = bz at x0 x1 y0 y1 gz gz' ⊢
            generalize wp.heap.size = bx at x0 x1 y0 y1 gx gx' ⊢
            have R0 := rowW_of_own HOs.out rfl
            obtain ⟨⟨e1, k1⟩, l1⟩ := R0.cells hpM
            obtain ⟨⟨e2, k2⟩, l2⟩ := (R0.store (p * 2) (.string M[q].1)).cells2 hpM
            obtain ⟨⟨e3, k3⟩, l3⟩ := ((R0.store (p * 2) (.string M[q].1)).store (p * 2 + 1) (.int .i64 M[q].2)).cells hqM
            obtain ⟨⟨e4, k4⟩, l4⟩ := (((R0.store (p * 2) (.string M[q].1)).store (p * 2 + 1) (.int .i64 M[q].2)).store (q * 2) (.string M[p].1)).cells2 hqM
            clear R0
            go_wp2
            go_region_held3 (fun w' => w'.cell? ⟨bx, 0, none⟩ = some (.string M[p].1) ∧ w'.cell? ⟨bx, 1, none⟩ = some (.int .i64 M[p].2) ∧ w'.cell? ⟨bz, 0, none⟩ = some (.string M[q].1) ∧ w'.cell? ⟨bz, 1, none⟩ = some (.int .i64 M[q].2)) (go_keep) (fail)
            have HSW := Lib.hid (swapRel_step hk1 HM.out hg hpM hqM HOs.out HBs.out)
            clear k1 l1 k2 l2 k3 l3 k4 l4 x0 x1 y0 y1
            go_wp2
            go_roundw
            case rel => exact HSW.out
            case measure => simp [intOf]; omega
          · obtain ⟨y0, y1, x0, x1, ho, hb⟩ := boxes HOq.out HBq.out M[q].1 M[p].1 M[q].2 M[p].2
            have HOs := Lib.hid ho; have HBs := Lib.hid hb
            have hgl := (HOq.out.lt g rfl).2
            have gx : g ≠ wp.heap.size := by omega
            have gz : g ≠ wp.heap.size + 1 := by omega
            have gx' : wp.heap.size ≠ g := by omega
            have gz' : wp.heap.size + 1 ≠ g := by omega
            clear ho hb cp dp cq dq n1 n2 n3 n4 hgl HOq HBq
            generalize ((wp.alloc (.cells #[.string M[q].1, .int .i64 M[q].2] 30)).alloc (.cells #[.string M[p].1, .int .i64 M[p].2] 30)).drew = ws at x0 x1 y0 y1 HOs HBs ⊢
            generalize wp.heap.size + 1 = bz at x0 x1 y0 y1 gz gz' ⊢
            generalize wp.heap.size = bx at x0 x1 y0 y1 gx gx' ⊢
            have R0 := rowW_of_own HOs.out rfl
            obtain ⟨⟨e1, k1⟩, l1⟩ := R0.cells hpM
            obtain ⟨⟨e2, k2⟩, l2⟩ := (R0.store (p * 2) (.string M[q].1)).cells2 hpM
            obtain ⟨⟨e3, k3⟩, l3⟩ := ((R0.store (p * 2) (.string M[q].1)).store (p * 2 + 1) (.int .i64 M[q].2)).cells hqM
            obtain ⟨⟨e4, k4⟩, l4⟩ := (((R0.store (p * 2) (.string M[q].1)).store (p * 2 + 1) (.int .i64 M[q].2)).store (q * 2) (.string M[p].1)).cells2 hqM
            clear R0
            go_wp2
            go_region_held3 (fun w' => w'.cell? ⟨bz, 0, none⟩ = some (.string M[p].1) ∧ w'.cell? ⟨bz, 1, none⟩ = some (.int .i64 M[p].2) ∧ w'.cell? ⟨bx, 0, none⟩ = some (.string M[q].1) ∧ w'.cell? ⟨bx, 1, none⟩ = some (.int .i64 M[q].2)) (go_keep) (fail)
            have HSW := Lib.hid (swapRel_step hk1 HM.out hg hpM hqM HOs.out HBs.out)
            clear k1 l1 k2 l2 k3 l3 k4 l4 x0 x1 y0 y1
            go_wp2
            go_roundw
            case rel => exact HSW.out
            case measure => simp [intOf]; omega
        · have hcase : (¬ (k : Int) < (Z.length : Int)) ∨ ((k : Int) < (Z.length : Int) ∧ ¬ (0 : Int) < (L.length : Int)) := by omega
          have HVr := Lib.hid (HV.out.below HB.out (Nat.le_refl _))
          have hc0 := Int.emod_nonneg cut (b := (L.length : Int) + 1) (by omega)
          have hc1 := Int.emod_lt_of_pos cut (b := (L.length : Int) + 1) (by omega)
          obtain ⟨c, hc⟩ : ∃ c : Nat, cut % ((L.length : Int) + 1) = (c : Int) := ⟨(cut % ((L.length : Int) + 1)).toNat, by omega⟩
          have hcL : c ≤ L.length := by omega
          have HZ1 : Hid ([L].flatten = L) := Lib.hid (by simp)
          have HA : Hid (Below wr.heap.size wr (wr.alloc (.cells #[.slice aL L.length capL] 22))) := Lib.hid ((Below.refl _ wr).alloc (Nat.le_refl _) _)
          clear hgo hc0 hc1
          rcases hcase with hk2 | ⟨hk2, hf2⟩
          all_goals
            go_wp2_with fail
            refine (cmerge_any _ [L] _ (one_row HVr.out) (by simp) (fun q hq => by rw [List.mem_singleton] at hq; rw [hq]; exact hf) (by rw [HZ1.out]; omega)).mono ?_
            rw [HZ1.out]
            rintro e w5 ⟨y, rfl, hy5, hb5⟩
            have HB5 : Hid (Below wr.heap.size wr w5) := Lib.hid (HA.out.trans (hb5.mono HA.out.size))
            have HY5 := Lib.hid hy5
            have HO5 := Lib.hid (HO.out.below HB5.out)
            clear hy5 hb5
            have hk0 : (0 : Int) ≤ (c : Int) := by omega
            have hkl : (c : Int) ≤ (L.length : Int) := by omega
            have hkc : (c : Int) ≤ (cap2 : Int) := by omega
            have hlc : (L.length : Int) ≤ (cap2 : Int) := by omega
            have hcM : c ≤ M.length := by rw [HLM.out]; exact hcL
            have HZ3 : Hid ([M.take c, [], M.drop c].flatten = M) := Lib.hid (by simp)
            have hMl : M.length ≤ 100 := by rw [HLM.out]; exact hl
            have HF3 : Hid (∀ q ∈ [M.take c, [], M.drop c], Fits q) := Lib.hid (by
              intro q hq p hp
              have hm : p ∈ M := by rw [← HZ3.out]; exact List.mem_flatten.2 ⟨q, hq, hp⟩
              exact hf p (HM.out.mem_iff.1 hm))
            clear hc
            have HH := Lib.hid (words_head HO5.out.reads hcM)
            have HTT := Lib.hid (words_tail (c := c) HO5.out.reads hcp2)
            by_cases hcc : cap2 = c
            · have HT : Hid (wordsAt w5 (.slice a2 0 0) (M.drop c)) := Lib.hid (by
                have := HTT.out
                rw [if_pos hcc, ← hcc, Nat.sub_self, show L.length - cap2 = 0 by omega] at this
                rwa [← hcc])
              subst hcc
              go_wp2
              go_region_held3 (fun _ => True) (exact trivial) (first | (go_at_call 16; refine (cmerge_any _ [M.take cap2, [], M.drop cap2] _ (three_rows HH.out (wordsAt.nil _) HT.out) (by simp) HF3.out (by rw [HZ3.out]; omega)).mono ?_; rw [HZ3.out]; rintro e w6 ⟨r6, rfl, hr6, hb6⟩; have HR6 := Lib.hid hr6; have HB6 := Lib.hid hb6; clear hr6 hb6))
              have HB7 : Hid (Below w5.heap.size w5 w6) := Lib.hid (((Below.refl _ w5).alloc (Nat.le_refl _) _).drew.trans (HB6.out.mono (by show w5.heap.size ≤ (w5.alloc _).heap.size; rw [World.size_alloc]; omega)))
              have HY6 := Lib.hid (HY5.out.below HB7.out)
              have hl1 := merge_len L []
              obtain ⟨⟨A, z1⟩, hA⟩ : ∃ r, mergeW [] L = r := ⟨_, rfl⟩
              obtain ⟨⟨B, z2⟩, hB⟩ : ∃ r, mergeW [] M = r := ⟨_, rfl⟩
              have HAL := Lib.hid (merge_perm HM.out sound_nil (fun p hp => (hf p (HM.out.mem_iff.1 hp)).1))
              rw [hA, hB] at HAL
              rw [hA] at HY6 hl1
              rw [hB] at HR6
              simp only [hA, hB]
              obtain rfl : B = A := HAL.out.1
              have hz : z2 = 0 ↔ z1 = 0 := HAL.out.2
              have HBF : Hid (Below w.heap.size w w6) := Lib.hid ((HB.out.trans (HB5.out.mono HB.out.size)).trans (HB7.out.mono (Nat.le_trans HB.out.size HB5.out.size)))
              clear hA hB HAL HB6 HB7 HY5
              simp only [List.length_nil, Nat.zero_add] at hl1
              by_cases h1 : z1 = 0
              · have h2 : z2 = 0 := hz.2 h1
                subst h1 h2
                clear hz
                go_wp2_with fail
                refine (same_true _ _ B _ HY6.out.reads HR6.out.reads (by omega)).mono ?_
                rintro e w7 ⟨rfl, n7, hw7⟩
                have HB8 : Hid (Below w.heap.size w w7) := Lib.hid (by rw [hw7]; exact below_drewN' HBF.out n7)
                clear hw7
                go_wp2
                go_ret
                exact ⟨rfl, HB8.out⟩
              · have e1 : (z1 == 0) = false := beq_eq_false_iff_ne.2 h1
                have e2 : (z2 == 0) = false := beq_eq_false_iff_ne.2 fun k => h1 (hz.1 k)
                clear hz h1
                go_wp2_with fail
                refine (same_true _ _ B _ HY6.out.reads HR6.out.reads (by omega)).mono ?_
                rintro e w7 ⟨rfl, n7, hw7⟩
                have HB8 : Hid (Below w.heap.size w w7) := Lib.hid (by rw [hw7]; exact below_drewN' HBF.out n7)
                clear hw7
                go_wp2
                go_ret
                exact ⟨rfl, HB8.out⟩
            · have HT : Hid (wordsAt w5 (.slice (a2.map fun x => x.add (c * 2)) (L.length - c) (cap2 - c)) (M.drop c)) := Lib.hid (by
                have := HTT.out
                rwa [if_neg hcc] at this)
              go_wp2
              go_region_held3 (fun _ => True) (exact trivial) (first | (go_at_call 16; refine (cmerge_any _ [M.take c, [], M.drop c] _ (three_rows HH.out (wordsAt.nil _) HT.out) (by simp) HF3.out (by rw [HZ3.out]; omega)).mono ?_; rw [HZ3.out]; rintro e w6 ⟨r6, rfl, hr6, hb6⟩; have HR6 := Lib.hid hr6; have HB6 := Lib.hid hb6; clear hr6 hb6))
              have HB7 : Hid (Below w5.heap.size w5 w6) := Lib.hid (((Below.refl _ w5).alloc (Nat.le_refl _) _).drew.trans (HB6.out.mono (by show w5.heap.size ≤ (w5.alloc _).heap.size; rw [World.size_alloc]; omega)))
              have HY6 := Lib.hid (HY5.out.below HB7.out)
              have hl1 := merge_len L []
              obtain ⟨⟨A, z1⟩, hA⟩ : ∃ r, mergeW [] L = r := ⟨_, rfl⟩
              obtain ⟨⟨B, z2⟩, hB⟩ : ∃ r, mergeW [] M = r := ⟨_, rfl⟩
              have HAL := Lib.hid (merge_perm HM.out sound_nil (fun p hp => (hf p (HM.out.mem_iff.1 hp)).1))
              rw [hA, hB] at HAL
              rw [hA] at HY6 hl1
              rw [hB] at HR6
              simp only [hA, hB]
              obtain rfl : B = A := HAL.out.1
              have hz : z2 = 0 ↔ z1 = 0 := HAL.out.2
              have HBF : Hid (Below w.heap.size w w6) := Lib.hid ((HB.out.trans (HB5.out.mono HB.out.size)).trans (HB7.out.mono (Nat.le_trans HB.out.size HB5.out.size)))
              clear hA hB HAL HB6 HB7 HY5
              simp only [List.length_nil, Nat.zero_add] at hl1
              by_cases h1 : z1 = 0
              · have h2 : z2 = 0 := hz.2 h1
                subst h1 h2
                clear hz
                go_wp2_with fail
                refine (same_true _ _ B _ HY6.out.reads HR6.out.reads (by omega)).mono ?_
                rintro e w7 ⟨rfl, n7, hw7⟩
                have HB8 : Hid (Below w.heap.size w w7) := Lib.hid (by rw [hw7]; exact below_drewN' HBF.out n7)
                clear hw7
                go_wp2
                go_ret
                exact ⟨rfl, HB8.out⟩
              · have e1 : (z1 == 0) = false := beq_eq_false_iff_ne.2 h1
                have e2 : (z2 == 0) = false := beq_eq_false_iff_ne.2 fun k => h1 (hz.1 k)
                clear hz h1
                go_wp2_with fail
                refine (same_true _ _ B _ HY6.out.reads HR6.out.reads (by omega)).mono ?_
                rintro e w7 ⟨rfl, n7, hw7⟩
                have HB8 : Hid (Below w.heap.size w w7) := Lib.hid (by rw [hw7]; exact below_drewN' HBF.out n7)
                clear hw7
                go_wp2
                go_ret
                exact ⟨rfl, HB8.out⟩
end Go.Proofs.Ytikdhlpmoldijaa
