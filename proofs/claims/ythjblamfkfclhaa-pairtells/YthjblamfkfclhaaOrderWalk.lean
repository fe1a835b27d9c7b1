/- The walk of PairOrder. -/
import Derived.Test.YthjblamfkfclhaaJoined
import Derived.Test.YthjblamfkfclhaaOrd
namespace Go.Proofs.Ythjblamfkfclhaa
open Go.RowKit Go.Maps

/-- An item lies in block N. -/
def Box (w : World) (N : Nat) (p q n : Int) : Prop := w.cell? ⟨N, 0, none⟩ = some (.int .i64 p) ∧ w.cell? ⟨N, 1, none⟩ = some (.int .i64 q) ∧ w.cell? ⟨N, 2, none⟩ = some (.int .i64 n)
theorem Box.below {w w' : World} {N : Nat} {p q n : Int} (h : Box w N p q n) (hN : N < w.heap.size) (hb : Below w.heap.size w w') : Box w' N p q n := ⟨(hb.cell hN).trans h.1, (hb.cell hN).trans h.2.1, (hb.cell hN).trans h.2.2⟩
theorem Both.grown {w wr w2 : World} {K K2 : Nat} {J J2 : List Joint} (h : Both w K K2 J J2 wr) (hg : Grown wr w2) : Both w K K2 J J2 w2 := h.below hg.below
theorem betterB {w wr : World} {K K2 : Nat} {J J2 : List Joint} (h : Both w K K2 J J2 wr) (hJ : J.length ≤ 900000) {p q n r s m : Int} (hx : FitsI (p, q, n)) (hy : FitsI (r, s, m)) :
    Calls Try.prog 13 #[.pointer (some ⟨K, 0, none⟩), .agg #[.int .i64 p, .int .i64 q, .int .i64 n], .agg #[.int .i64 r, .int .i64 s, .int .i64 m]] wr fun e w' => e = .returned (.bool (betterOf J (p, q, n) (r, s, m))) ∧ Grown wr w' := by
  obtain ⟨v, b, v2, p2, h1, h2, h3, h4⟩ := h
  exact better_any K v b J (p, q, n) (r, s, m) wr h1 (by omega) hx hy
/-- Both tables, and three items in their boxes. -/
structure Ord3 (w1 : World) (K K2 : Nat) (J : List Joint) (N : Nat) (a b c p q r x y z : Int) (wr : World) : Prop where
  both : Both w1 K K2 J J wr
  one : Box wr N a b c
  two : Box wr (N + 1) p q r
  three : Box wr (N + 1 + 1) x y z
  lt : N + 1 + 1 < wr.heap.size
theorem Ord3.grown {w1 wr w2 : World} {K K2 N : Nat} {J : List Joint} {a b c p q r x y z : Int} (h : Ord3 w1 K K2 J N a b c p q r x y z wr) (hg : Grown wr w2) : Ord3 w1 K K2 J N a b c p q r x y z w2 :=
  ⟨h.both.grown hg, h.one.below (by have := h.lt; omega) hg.below, h.two.below (by have := h.lt; omega) hg.below, h.three.below h.lt hg.below, Nat.lt_of_lt_of_le h.lt hg.below.size⟩
theorem ord3_better {w1 : World} {K K2 N : Nat} {J : List Joint} {a b c p q r x y z : Int} (hJ : J.length ≤ 900000) (i j k l m n : Int) (hx : FitsI (i, j, k)) (hy : FitsI (l, m, n)) (wr : World) (h : Ord3 w1 K K2 J N a b c p q r x y z wr) :
    Calls Try.prog 13 #[.pointer (some ⟨K, 0, none⟩), .agg #[.int .i64 i, .int .i64 j, .int .i64 k], .agg #[.int .i64 l, .int .i64 m, .int .i64 n]] wr fun e w' => e = .returned (.bool (betterOf J (i, j, k) (l, m, n))) ∧ Ord3 w1 K K2 J N a b c p q r x y z w' :=
  (betterB h.both hJ hx hy).mono fun _ _ h' => ⟨h'.1, h.grown h'.2⟩
theorem ord3_there {w1 : World} {K K2 N : Nat} {J : List Joint} {a b c p q r x y z : Int} (i : Int) (wr : World) (h : Ord3 w1 K K2 J N a b c p q r x y z wr) :
    Calls Try.prog 15 #[.pointer (some ⟨K2, 0, none⟩), .int .i64 i] wr fun e w' => e = .returned (.bool (thereOf J i)) ∧ w' = wr := rthereB h.both i
set_option maxRecDepth 100000 in
set_option maxHeartbeats 8000000 in
theorem pairOrder_walk (v : Value) (x y z : Item) (w : World) (l : List (Int × Int)) (hv : eltsAt pairE w v l) (hL : l.length ≤ maxLen) (hf : FitsP l) (fx : FitsI x) (fy : FitsI y) (fz : FitsI z) :
    Calls Try.prog 4 #[v, itemV x, itemV y, itemV z] w fun e w' => e = .returned (.bool true) ∧ Below w.heap.size w w' := by
  obtain ⟨a1, a2, a3⟩ := x
  obtain ⟨b1, b2, b3⟩ := y
  obtain ⟨c1, c2, c3⟩ := z
  unfold itemV
  simp only
  obtain ⟨wb, hwb⟩ : ∃ wb, wb = ((w.alloc (.cells #[.int .i64 a1, .int .i64 a2, .int .i64 a3] 33)).alloc (.cells #[.int .i64 b1, .int .i64 b2, .int .i64 b3] 33)).alloc (.cells #[.int .i64 c1, .int .i64 c2, .int .i64 c3] 33) := ⟨_, rfl⟩
  have HGB : Hid (Grown w wb) := Lib.hid (by rw [hwb]; exact (((Grown.refl w).alloc _).alloc _).alloc _)
  have HSZ : Hid (wb.heap.size = w.heap.size + 3) := Lib.hid (by rw [hwb, World.size_alloc, World.size_alloc, World.size_alloc])
  obtain ⟨u1, u2, u3⟩ : Box wb w.heap.size a1 a2 a3 ∧ Box wb (w.heap.size + 1) b1 b2 b3 ∧ Box wb (w.heap.size + 1 + 1) c1 c2 c3 := by
    rw [hwb]
    have e : w.heap.size + 1 = (w.alloc (.cells #[.int .i64 a1, .int .i64 a2, .int .i64 a3] 33)).heap.size := by rw [World.size_alloc]
    refine ⟨Box.below (w := w.alloc (.cells #[.int .i64 a1, .int .i64 a2, .int .i64 a3] 33)) ⟨by simp, by simp, by simp⟩ (by simp) (((Grown.refl _).alloc _).alloc _).below, ?_⟩
    rw [e]
    generalize w.alloc (.cells #[.int .i64 a1, .int .i64 a2, .int .i64 a3] 33) = wa
    exact ⟨⟨by simp, by simp, by simp⟩, ⟨by simp, by simp, by simp⟩⟩
  have hw' := hwb.symm
  have HU := Lib.hid (And.intro u1 (And.intro u2 u3))
  have HV : Hid (eltsAt pairE wb v l) := Lib.hid (hv.below HGB.out.below (Nat.le_refl _))
  obtain ⟨ar, cap, rfl, _⟩ := hv
  have HF := Lib.hid hf
  clear hf hwb u1 u2 u3
  unfold maxLen at hL
  go_enter Try.func4, Try.ntmps4
  go_wp2_with fail
  refine (awake_any _).mono ?_
  rintro e w1 ⟨rfl, hb1⟩
  have HB1 := Lib.hid hb1
  clear hb1 hw'
  by_cases hl : 60 < l.length
  · have hlI : (60 : Int) < (l.length : Int) := by omega
    go_wp2
    go_ret
    exact ⟨rfl, HGB.out.below.trans (HB1.out.mono HGB.out.below.size)⟩
  have hlI : ¬ (60 : Int) < (l.length : Int) := by omega
  have cJ := joined_any (.slice ar l.length cap) w1 l (HV.out.below HB1.out (Nat.le_refl _)) HF.out (by omega)
  go_wp2_with fail
  refine cJ.mono ?_
  rintro e w2 ⟨K, K2, J, ok, rfl, hJl, hB⟩
  have HB := Lib.hid hB
  have HG := Lib.hid hB.good
  have HBEL : Hid (Below w.heap.size w w2) := Lib.hid (HGB.out.below.trans ((HB1.out.trans (hB.bel.mono HB1.out.size)).mono HGB.out.below.size))
  clear hB cJ
  cases ok with
  | false =>
    go_wp2
    go_ret
    exact ⟨rfl, HBEL.out⟩
  | true =>
    have HO : Hid (Ord3 w1 K K2 J w.heap.size a1 a2 a3 b1 b2 b3 c1 c2 c3 w2) := Lib.hid (by
      obtain ⟨u1, u2, u3⟩ := HU.out
      have hs := HSZ.out
      have hs1 := HB1.out.size
      have h2 := HB.out.bel
      exact ⟨HB.out, (u1.below (by omega) HB1.out).below (by omega) h2, (u2.below (by omega) HB1.out).below (by omega) h2, (u3.below (by omega) HB1.out).below (by omega) h2, by have := h2.size; omega⟩)
    obtain ⟨⟨p1, p2, p3⟩, ⟨q1, q2, q3⟩, ⟨r1, r2, r3⟩⟩ : Box w2 w.heap.size a1 a2 a3 ∧ Box w2 (w.heap.size + 1) b1 b2 b3 ∧ Box w2 (w.heap.size + 1 + 1) c1 c2 c3 := ⟨HO.out.one, HO.out.two, HO.out.three⟩
    have t0 := better_irrefl (J := J) (a1, a2, a3)
    have hJ9 : J.length ≤ 900000 := by omega
    clear HB
    have HBASE : Hid (Below w.heap.size w w1) := Lib.hid (HGB.out.below.trans (HB1.out.mono HGB.out.below.size))
    clear HBEL HU HV HF HSZ
    cases tab : betterOf J (a1, a2, a3) (b1, b2, b3) with
    | true =>
      have tba := better_asymm tab
      cases tbc : betterOf J (b1, b2, b3) (c1, c2, c3) with
      | true =>
        have tac := better_trans tab tbc
        cases t1 : thereOf J a1 with
        | false =>
          go_wp2_with (first
            | (go_at_call 13
               refine (ord3_better hJ9 _ _ _ _ _ _ (by assumption) (by assumption) _ HO.out).mono ?_
               rintro e w3 ⟨rfl, ho⟩
               have HO := Lib.hid ho
               obtain ⟨⟨p1, p2, p3⟩, ⟨q1, q2, q3⟩, ⟨r1, r2, r3⟩⟩ : Box w3 w.heap.size a1 a2 a3 ∧ Box w3 (w.heap.size + 1) b1 b2 b3 ∧ Box w3 (w.heap.size + 1 + 1) c1 c2 c3 := ⟨ho.one, ho.two, ho.three⟩
               clear ho)
            | (go_at_call 15
               refine (ord3_there _ _ HO.out).mono ?_
               rintro e w3 ⟨rfl, rfl⟩))
          go_ret
          exact ⟨rfl, HBASE.out.trans (HO.out.both.bel.mono HBASE.out.size)⟩
        | true =>
          cases t2 : thereOf J a2 with
          | false =>
            go_wp2_with (first
              | (go_at_call 13
                 refine (ord3_better hJ9 _ _ _ _ _ _ (by assumption) (by assumption) _ HO.out).mono ?_
                 rintro e w3 ⟨rfl, ho⟩
                 have HO := Lib.hid ho
                 obtain ⟨⟨p1, p2, p3⟩, ⟨q1, q2, q3⟩, ⟨r1, r2, r3⟩⟩ : Box w3 w.heap.size a1 a2 a3 ∧ Box w3 (w.heap.size + 1) b1 b2 b3 ∧ Box w3 (w.heap.size + 1 + 1) c1 c2 c3 := ⟨ho.one, ho.two, ho.three⟩
                 clear ho)
              | (go_at_call 15
                 refine (ord3_there _ _ HO.out).mono ?_
                 rintro e w3 ⟨rfl, rfl⟩))
            go_ret
            exact ⟨rfl, HBASE.out.trans (HO.out.both.bel.mono HBASE.out.size)⟩
          | true =>
            cases t3 : thereOf J b1 with
            | false =>
              go_wp2_with (first
                | (go_at_call 13
                   refine (ord3_better hJ9 _ _ _ _ _ _ (by assumption) (by assumption) _ HO.out).mono ?_
                   rintro e w3 ⟨rfl, ho⟩
                   have HO := Lib.hid ho
                   obtain ⟨⟨p1, p2, p3⟩, ⟨q1, q2, q3⟩, ⟨r1, r2, r3⟩⟩ : Box w3 w.heap.size a1 a2 a3 ∧ Box w3 (w.heap.size + 1) b1 b2 b3 ∧ Box w3 (w.heap.size + 1 + 1) c1 c2 c3 := ⟨ho.one, ho.two, ho.three⟩
                   clear ho)
                | (go_at_call 15
                   refine (ord3_there _ _ HO.out).mono ?_
                   rintro e w3 ⟨rfl, rfl⟩))
              go_ret
              exact ⟨rfl, HBASE.out.trans (HO.out.both.bel.mono HBASE.out.size)⟩
            | true =>
              cases t4 : thereOf J b2 with
              | false =>
                go_wp2_with (first
                  | (go_at_call 13
                     refine (ord3_better hJ9 _ _ _ _ _ _ (by assumption) (by assumption) _ HO.out).mono ?_
                     rintro e w3 ⟨rfl, ho⟩
                     have HO := Lib.hid ho
                     obtain ⟨⟨p1, p2, p3⟩, ⟨q1, q2, q3⟩, ⟨r1, r2, r3⟩⟩ : Box w3 w.heap.size a1 a2 a3 ∧ Box w3 (w.heap.size + 1) b1 b2 b3 ∧ Box w3 (w.heap.size + 1 + 1) c1 c2 c3 := ⟨ho.one, ho.two, ho.three⟩
                     clear ho)
                  | (go_at_call 15
                     refine (ord3_there _ _ HO.out).mono ?_
                     rintro e w3 ⟨rfl, rfl⟩))
                go_ret
                exact ⟨rfl, HBASE.out.trans (HO.out.both.bel.mono HBASE.out.size)⟩
              | true =>
                by_cases e1 : a1 = b1
                · have x1 : (a1 == b1) = true := beq_iff_eq.2 e1
                  have E1 := Lib.hid e1
                  clear e1
                  by_cases e2 : a2 = b2
                  · have x2 : (a2 == b2) = true := beq_iff_eq.2 e2
                    clear e2
                    go_wp2_with (first
                      | (go_at_call 13
                         refine (ord3_better hJ9 _ _ _ _ _ _ (by assumption) (by assumption) _ HO.out).mono ?_
                         rintro e w3 ⟨rfl, ho⟩
                         have HO := Lib.hid ho
                         obtain ⟨⟨p1, p2, p3⟩, ⟨q1, q2, q3⟩, ⟨r1, r2, r3⟩⟩ : Box w3 w.heap.size a1 a2 a3 ∧ Box w3 (w.heap.size + 1) b1 b2 b3 ∧ Box w3 (w.heap.size + 1 + 1) c1 c2 c3 := ⟨ho.one, ho.two, ho.three⟩
                         clear ho)
                      | (go_at_call 15
                         refine (ord3_there _ _ HO.out).mono ?_
                         rintro e w3 ⟨rfl, rfl⟩))
                    go_ret
                    exact ⟨rfl, HBASE.out.trans (HO.out.both.bel.mono HBASE.out.size)⟩
                  · have x2 : (a2 == b2) = false := beq_eq_false_iff_ne.2 e2
                    clear e2
                    go_wp2_with (first
                      | (go_at_call 13
                         refine (ord3_better hJ9 _ _ _ _ _ _ (by assumption) (by assumption) _ HO.out).mono ?_
                         rintro e w3 ⟨rfl, ho⟩
                         have HO := Lib.hid ho
                         obtain ⟨⟨p1, p2, p3⟩, ⟨q1, q2, q3⟩, ⟨r1, r2, r3⟩⟩ : Box w3 w.heap.size a1 a2 a3 ∧ Box w3 (w.heap.size + 1) b1 b2 b3 ∧ Box w3 (w.heap.size + 1 + 1) c1 c2 c3 := ⟨ho.one, ho.two, ho.three⟩
                         clear ho)
                      | (go_at_call 15
                         refine (ord3_there _ _ HO.out).mono ?_
                         rintro e w3 ⟨rfl, rfl⟩))
                    go_ret
                    exact ⟨rfl, HBASE.out.trans (HO.out.both.bel.mono HBASE.out.size)⟩
                · have x1 : (a1 == b1) = false := beq_eq_false_iff_ne.2 e1
                  clear e1
                  go_wp2_with (first
                    | (go_at_call 13
                       refine (ord3_better hJ9 _ _ _ _ _ _ (by assumption) (by assumption) _ HO.out).mono ?_
                       rintro e w3 ⟨rfl, ho⟩
                       have HO := Lib.hid ho
                       obtain ⟨⟨p1, p2, p3⟩, ⟨q1, q2, q3⟩, ⟨r1, r2, r3⟩⟩ : Box w3 w.heap.size a1 a2 a3 ∧ Box w3 (w.heap.size + 1) b1 b2 b3 ∧ Box w3 (w.heap.size + 1 + 1) c1 c2 c3 := ⟨ho.one, ho.two, ho.three⟩
                       clear ho)
                    | (go_at_call 15
                       refine (ord3_there _ _ HO.out).mono ?_
                       rintro e w3 ⟨rfl, rfl⟩))
                  go_ret
                  exact ⟨rfl, HBASE.out.trans (HO.out.both.bel.mono HBASE.out.size)⟩
      | false =>
        cases t1 : thereOf J a1 with
        | false =>
          go_wp2_with (first
            | (go_at_call 13
               refine (ord3_better hJ9 _ _ _ _ _ _ (by assumption) (by assumption) _ HO.out).mono ?_
               rintro e w3 ⟨rfl, ho⟩
               have HO := Lib.hid ho
               obtain ⟨⟨p1, p2, p3⟩, ⟨q1, q2, q3⟩, ⟨r1, r2, r3⟩⟩ : Box w3 w.heap.size a1 a2 a3 ∧ Box w3 (w.heap.size + 1) b1 b2 b3 ∧ Box w3 (w.heap.size + 1 + 1) c1 c2 c3 := ⟨ho.one, ho.two, ho.three⟩
               clear ho)
            | (go_at_call 15
               refine (ord3_there _ _ HO.out).mono ?_
               rintro e w3 ⟨rfl, rfl⟩))
          go_ret
          exact ⟨rfl, HBASE.out.trans (HO.out.both.bel.mono HBASE.out.size)⟩
        | true =>
          cases t2 : thereOf J a2 with
          | false =>
            go_wp2_with (first
              | (go_at_call 13
                 refine (ord3_better hJ9 _ _ _ _ _ _ (by assumption) (by assumption) _ HO.out).mono ?_
                 rintro e w3 ⟨rfl, ho⟩
                 have HO := Lib.hid ho
                 obtain ⟨⟨p1, p2, p3⟩, ⟨q1, q2, q3⟩, ⟨r1, r2, r3⟩⟩ : Box w3 w.heap.size a1 a2 a3 ∧ Box w3 (w.heap.size + 1) b1 b2 b3 ∧ Box w3 (w.heap.size + 1 + 1) c1 c2 c3 := ⟨ho.one, ho.two, ho.three⟩
                 clear ho)
              | (go_at_call 15
                 refine (ord3_there _ _ HO.out).mono ?_
                 rintro e w3 ⟨rfl, rfl⟩))
            go_ret
            exact ⟨rfl, HBASE.out.trans (HO.out.both.bel.mono HBASE.out.size)⟩
          | true =>
            cases t3 : thereOf J b1 with
            | false =>
              go_wp2_with (first
                | (go_at_call 13
                   refine (ord3_better hJ9 _ _ _ _ _ _ (by assumption) (by assumption) _ HO.out).mono ?_
                   rintro e w3 ⟨rfl, ho⟩
                   have HO := Lib.hid ho
                   obtain ⟨⟨p1, p2, p3⟩, ⟨q1, q2, q3⟩, ⟨r1, r2, r3⟩⟩ : Box w3 w.heap.size a1 a2 a3 ∧ Box w3 (w.heap.size + 1) b1 b2 b3 ∧ Box w3 (w.heap.size + 1 + 1) c1 c2 c3 := ⟨ho.one, ho.two, ho.three⟩
                   clear ho)
                | (go_at_call 15
                   refine (ord3_there _ _ HO.out).mono ?_
                   rintro e w3 ⟨rfl, rfl⟩))
              go_ret
              exact ⟨rfl, HBASE.out.trans (HO.out.both.bel.mono HBASE.out.size)⟩
            | true =>
              cases t4 : thereOf J b2 with
              | false =>
                go_wp2_with (first
                  | (go_at_call 13
                     refine (ord3_better hJ9 _ _ _ _ _ _ (by assumption) (by assumption) _ HO.out).mono ?_
                     rintro e w3 ⟨rfl, ho⟩
                     have HO := Lib.hid ho
                     obtain ⟨⟨p1, p2, p3⟩, ⟨q1, q2, q3⟩, ⟨r1, r2, r3⟩⟩ : Box w3 w.heap.size a1 a2 a3 ∧ Box w3 (w.heap.size + 1) b1 b2 b3 ∧ Box w3 (w.heap.size + 1 + 1) c1 c2 c3 := ⟨ho.one, ho.two, ho.three⟩
                     clear ho)
                  | (go_at_call 15
                     refine (ord3_there _ _ HO.out).mono ?_
                     rintro e w3 ⟨rfl, rfl⟩))
                go_ret
                exact ⟨rfl, HBASE.out.trans (HO.out.both.bel.mono HBASE.out.size)⟩
              | true =>
                by_cases e1 : a1 = b1
                · have x1 : (a1 == b1) = true := beq_iff_eq.2 e1
                  have E1 := Lib.hid e1
                  clear e1
                  by_cases e2 : a2 = b2
                  · have x2 : (a2 == b2) = true := beq_iff_eq.2 e2
                    clear e2
                    go_wp2_with (first
                      | (go_at_call 13
                         refine (ord3_better hJ9 _ _ _ _ _ _ (by assumption) (by assumption) _ HO.out).mono ?_
                         rintro e w3 ⟨rfl, ho⟩
                         have HO := Lib.hid ho
                         obtain ⟨⟨p1, p2, p3⟩, ⟨q1, q2, q3⟩, ⟨r1, r2, r3⟩⟩ : Box w3 w.heap.size a1 a2 a3 ∧ Box w3 (w.heap.size + 1) b1 b2 b3 ∧ Box w3 (w.heap.size + 1 + 1) c1 c2 c3 := ⟨ho.one, ho.two, ho.three⟩
                         clear ho)
                      | (go_at_call 15
                         refine (ord3_there _ _ HO.out).mono ?_
                         rintro e w3 ⟨rfl, rfl⟩))
                    go_ret
                    exact ⟨rfl, HBASE.out.trans (HO.out.both.bel.mono HBASE.out.size)⟩
                  · have x2 : (a2 == b2) = false := beq_eq_false_iff_ne.2 e2
                    clear e2
                    go_wp2_with (first
                      | (go_at_call 13
                         refine (ord3_better hJ9 _ _ _ _ _ _ (by assumption) (by assumption) _ HO.out).mono ?_
                         rintro e w3 ⟨rfl, ho⟩
                         have HO := Lib.hid ho
                         obtain ⟨⟨p1, p2, p3⟩, ⟨q1, q2, q3⟩, ⟨r1, r2, r3⟩⟩ : Box w3 w.heap.size a1 a2 a3 ∧ Box w3 (w.heap.size + 1) b1 b2 b3 ∧ Box w3 (w.heap.size + 1 + 1) c1 c2 c3 := ⟨ho.one, ho.two, ho.three⟩
                         clear ho)
                      | (go_at_call 15
                         refine (ord3_there _ _ HO.out).mono ?_
                         rintro e w3 ⟨rfl, rfl⟩))
                    go_ret
                    exact ⟨rfl, HBASE.out.trans (HO.out.both.bel.mono HBASE.out.size)⟩
                · have x1 : (a1 == b1) = false := beq_eq_false_iff_ne.2 e1
                  clear e1
                  go_wp2_with (first
                    | (go_at_call 13
                       refine (ord3_better hJ9 _ _ _ _ _ _ (by assumption) (by assumption) _ HO.out).mono ?_
                       rintro e w3 ⟨rfl, ho⟩
                       have HO := Lib.hid ho
                       obtain ⟨⟨p1, p2, p3⟩, ⟨q1, q2, q3⟩, ⟨r1, r2, r3⟩⟩ : Box w3 w.heap.size a1 a2 a3 ∧ Box w3 (w.heap.size + 1) b1 b2 b3 ∧ Box w3 (w.heap.size + 1 + 1) c1 c2 c3 := ⟨ho.one, ho.two, ho.three⟩
                       clear ho)
                    | (go_at_call 15
                       refine (ord3_there _ _ HO.out).mono ?_
                       rintro e w3 ⟨rfl, rfl⟩))
                  go_ret
                  exact ⟨rfl, HBASE.out.trans (HO.out.both.bel.mono HBASE.out.size)⟩
    | false =>
      cases t1 : thereOf J a1 with
      | false =>
        go_wp2_with (first
          | (go_at_call 13
             refine (ord3_better hJ9 _ _ _ _ _ _ (by assumption) (by assumption) _ HO.out).mono ?_
             rintro e w3 ⟨rfl, ho⟩
             have HO := Lib.hid ho
             obtain ⟨⟨p1, p2, p3⟩, ⟨q1, q2, q3⟩, ⟨r1, r2, r3⟩⟩ : Box w3 w.heap.size a1 a2 a3 ∧ Box w3 (w.heap.size + 1) b1 b2 b3 ∧ Box w3 (w.heap.size + 1 + 1) c1 c2 c3 := ⟨ho.one, ho.two, ho.three⟩
             clear ho)
          | (go_at_call 15
             refine (ord3_there _ _ HO.out).mono ?_
             rintro e w3 ⟨rfl, rfl⟩))
        go_ret
        exact ⟨rfl, HBASE.out.trans (HO.out.both.bel.mono HBASE.out.size)⟩
      | true =>
        cases t2 : thereOf J a2 with
        | false =>
          go_wp2_with (first
            | (go_at_call 13
               refine (ord3_better hJ9 _ _ _ _ _ _ (by assumption) (by assumption) _ HO.out).mono ?_
               rintro e w3 ⟨rfl, ho⟩
               have HO := Lib.hid ho
               obtain ⟨⟨p1, p2, p3⟩, ⟨q1, q2, q3⟩, ⟨r1, r2, r3⟩⟩ : Box w3 w.heap.size a1 a2 a3 ∧ Box w3 (w.heap.size + 1) b1 b2 b3 ∧ Box w3 (w.heap.size + 1 + 1) c1 c2 c3 := ⟨ho.one, ho.two, ho.three⟩
               clear ho)
            | (go_at_call 15
               refine (ord3_there _ _ HO.out).mono ?_
               rintro e w3 ⟨rfl, rfl⟩))
          go_ret
          exact ⟨rfl, HBASE.out.trans (HO.out.both.bel.mono HBASE.out.size)⟩
        | true =>
          cases t3 : thereOf J b1 with
          | false =>
            go_wp2_with (first
              | (go_at_call 13
                 refine (ord3_better hJ9 _ _ _ _ _ _ (by assumption) (by assumption) _ HO.out).mono ?_
                 rintro e w3 ⟨rfl, ho⟩
                 have HO := Lib.hid ho
                 obtain ⟨⟨p1, p2, p3⟩, ⟨q1, q2, q3⟩, ⟨r1, r2, r3⟩⟩ : Box w3 w.heap.size a1 a2 a3 ∧ Box w3 (w.heap.size + 1) b1 b2 b3 ∧ Box w3 (w.heap.size + 1 + 1) c1 c2 c3 := ⟨ho.one, ho.two, ho.three⟩
                 clear ho)
              | (go_at_call 15
                 refine (ord3_there _ _ HO.out).mono ?_
                 rintro e w3 ⟨rfl, rfl⟩))
            go_ret
            exact ⟨rfl, HBASE.out.trans (HO.out.both.bel.mono HBASE.out.size)⟩
          | true =>
            cases t4 : thereOf J b2 with
            | false =>
              go_wp2_with (first
                | (go_at_call 13
                   refine (ord3_better hJ9 _ _ _ _ _ _ (by assumption) (by assumption) _ HO.out).mono ?_
                   rintro e w3 ⟨rfl, ho⟩
                   have HO := Lib.hid ho
                   obtain ⟨⟨p1, p2, p3⟩, ⟨q1, q2, q3⟩, ⟨r1, r2, r3⟩⟩ : Box w3 w.heap.size a1 a2 a3 ∧ Box w3 (w.heap.size + 1) b1 b2 b3 ∧ Box w3 (w.heap.size + 1 + 1) c1 c2 c3 := ⟨ho.one, ho.two, ho.three⟩
                   clear ho)
                | (go_at_call 15
                   refine (ord3_there _ _ HO.out).mono ?_
                   rintro e w3 ⟨rfl, rfl⟩))
              go_ret
              exact ⟨rfl, HBASE.out.trans (HO.out.both.bel.mono HBASE.out.size)⟩
            | true =>
              by_cases e1 : a1 = b1
              · have x1 : (a1 == b1) = true := beq_iff_eq.2 e1
                have E1 := Lib.hid e1
                clear e1
                by_cases e2 : a2 = b2
                · have x2 : (a2 == b2) = true := beq_iff_eq.2 e2
                  clear e2
                  go_wp2_with (first
                    | (go_at_call 13
                       refine (ord3_better hJ9 _ _ _ _ _ _ (by assumption) (by assumption) _ HO.out).mono ?_
                       rintro e w3 ⟨rfl, ho⟩
                       have HO := Lib.hid ho
                       obtain ⟨⟨p1, p2, p3⟩, ⟨q1, q2, q3⟩, ⟨r1, r2, r3⟩⟩ : Box w3 w.heap.size a1 a2 a3 ∧ Box w3 (w.heap.size + 1) b1 b2 b3 ∧ Box w3 (w.heap.size + 1 + 1) c1 c2 c3 := ⟨ho.one, ho.two, ho.three⟩
                       clear ho)
                    | (go_at_call 15
                       refine (ord3_there _ _ HO.out).mono ?_
                       rintro e w3 ⟨rfl, rfl⟩))
                  go_ret
                  exact ⟨rfl, HBASE.out.trans (HO.out.both.bel.mono HBASE.out.size)⟩
                · have x2 : (a2 == b2) = false := beq_eq_false_iff_ne.2 e2
                  have tba := better_one HG.out t1 t2 t3 t4 (fun h => e2 h.2) tab
                  clear e2
                  go_wp2_with (first
                    | (go_at_call 13
                       refine (ord3_better hJ9 _ _ _ _ _ _ (by assumption) (by assumption) _ HO.out).mono ?_
                       rintro e w3 ⟨rfl, ho⟩
                       have HO := Lib.hid ho
                       obtain ⟨⟨p1, p2, p3⟩, ⟨q1, q2, q3⟩, ⟨r1, r2, r3⟩⟩ : Box w3 w.heap.size a1 a2 a3 ∧ Box w3 (w.heap.size + 1) b1 b2 b3 ∧ Box w3 (w.heap.size + 1 + 1) c1 c2 c3 := ⟨ho.one, ho.two, ho.three⟩
                       clear ho)
                    | (go_at_call 15
                       refine (ord3_there _ _ HO.out).mono ?_
                       rintro e w3 ⟨rfl, rfl⟩))
                  go_ret
                  exact ⟨rfl, HBASE.out.trans (HO.out.both.bel.mono HBASE.out.size)⟩
              · have x1 : (a1 == b1) = false := beq_eq_false_iff_ne.2 e1
                have tba := better_one HG.out t1 t2 t3 t4 (fun h => e1 h.1) tab
                clear e1
                go_wp2_with (first
                  | (go_at_call 13
                     refine (ord3_better hJ9 _ _ _ _ _ _ (by assumption) (by assumption) _ HO.out).mono ?_
                     rintro e w3 ⟨rfl, ho⟩
                     have HO := Lib.hid ho
                     obtain ⟨⟨p1, p2, p3⟩, ⟨q1, q2, q3⟩, ⟨r1, r2, r3⟩⟩ : Box w3 w.heap.size a1 a2 a3 ∧ Box w3 (w.heap.size + 1) b1 b2 b3 ∧ Box w3 (w.heap.size + 1 + 1) c1 c2 c3 := ⟨ho.one, ho.two, ho.three⟩
                     clear ho)
                  | (go_at_call 15
                     refine (ord3_there _ _ HO.out).mono ?_
                     rintro e w3 ⟨rfl, rfl⟩))
                go_ret
                exact ⟨rfl, HBASE.out.trans (HO.out.both.bel.mono HBASE.out.size)⟩
end Go.Proofs.Ythjblamfkfclhaa
