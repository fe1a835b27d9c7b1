/- The walk of CheckedOrder. -/
import Derived.Test.YtcjefnbnihbncaaTells
import Derived.Test.YtcjefnbnihbncaaRowsum
import Derived.Test.YtcjefnbnihbncaaArgs16
namespace Go.Proofs.Ytcjefnbnihbncaa
open Go.RowKit

theorem own_none (w : World) : ownI (w.alloc (.cells #[] 3)) w.heap.size (.slice (some ⟨w.heap.size, 0, none⟩) 0 0) [] :=
  ⟨rfl, .inr ⟨w.heap.size, 0, #[], rfl, Nat.le_refl _, heap_alloc_new w _, Nat.le_refl _, Nat.zero_le _, rfl, rfl⟩⟩
theorem ownI.app {w2 : World} {b : Nat} {r : Value} {A B : List Int} {n : Nat} (h : w2.ownsRow b 3 1 r (A.length + n) (icells A ++ icells B)) (hn : n = B.length) : ownI w2 b r (A ++ B) := by
  unfold ownI; rw [List.length_append, icells_append, ← hn]; exact h
theorem run_append_ints {w : World} {base : Nat} {v x : Value} {A B : List Int} (ty : TypeId) (hA : ownI w base v A) (hB : intsAt w x B) (hnil : nilNone x) (hl : A.length + B.length ≤ 1048576) (hb : base ≤ w.heap.size) :
    ∃ r w', (Builtin.append_ #[26, 26] ty #[v, x]).run Try.prog w = .ok r w' ∧ ownI w' base r (A ++ B) ∧ w.grownBy w' v.ownBlock := by
  obtain ⟨j0, hj, hy0, hy1, hy2⟩ := info_parts Try.info3
  obtain ⟨a, c, rfl, hc⟩ := hB
  cases a with
  | none =>
    obtain rfl := hnil _ _ rfl
    have hB0 : B = [] := by
      cases B with
      | nil => rfl
      | cons b r => obtain ⟨ad, e, _⟩ := hc 0 (by simp); cases e
    subst hB0
    exact ⟨v, w, run_append_owned_none w base 26 ty 3 j0 1 Try.underlying26 hj v _ _ hA, by simpa using hA, ⟨rfl, rfl, rfl, Nat.le_refl _, fun _ _ _ => rfl⟩⟩
  | some ad =>
    have hsrc : ∀ j u, (icells B)[j]? = some u → w.cell? (ad.add j) = some u := by
      intro j u hu
      have hj : j < B.length := by have := (List.getElem?_eq_some_iff.1 hu).1; simpa [icells] using this
      obtain ⟨ad', e, _, hcj⟩ := hc j hj
      cases e
      rw [hcj, ← hu]
      simp [icells, List.getElem?_eq_getElem hj]
    obtain ⟨r, w', hr, h2, h3, _, _⟩ := run_append_own_at (P := Try.prog) w base 26 ty 3 j0 (.int .i64 0) 1 8 Try.underlying26 hj hy0 hy1 hy2 rfl (by decide) v A.length (icells A) hA ad B.length c (icells B) (by simp [icells]) hsrc (icells_one B) (by unfold maxLen; omega) (by omega) hb
    exact ⟨r, w', hr, ownI.app h2 rfl, h3⟩
theorem wpList_append_ints {w : World} {ops : Array Oper} {rest : List Oper} {o : Oper} {a : Act} {Q : Exit → Act → World → Prop} (hgd : o.guard = none) (s x : Operand)
    (ho : o.op = .call { callee := .builtin .append, args := #[s, x], argTypes := #[26, 26] }) (base : Nat) (v y : Value) (A B : List Int) (hs : a.eval s = v) (hx : a.eval x = y)
    (hA : ownI w base v A) (hB : intsAt w y B) (hnil : nilNone y) (hl : A.length + B.length ≤ 1048576) (hb : base ≤ w.heap.size)
    (h : ∀ r w', ownI w' base r (A ++ B) → w.grownBy w' v.ownBlock → wpList Try.prog ops Q rest (a.put o.dst r) w') : wpList Try.prog ops Q (o :: rest) a w := by
  refine wpList_plain hgd fun K hK => ?_
  obtain ⟨r, w', hr, h2, h3⟩ := run_append_ints o.type hA hB hnil hl hb
  unfold Oper.wp execOp
  simp only [ho, resolve, invoke, builtin, Sem.run_bind, Sem.run_pure, Result.andThen_ok, List.map_toArray, List.map_cons, List.map_nil, hs, hx, hr]
  exact hK _ _ (h r w' h2 h3)
/-- An owned row, written at one place. -/
theorem ownI.store {w : World} {b g n cap : Nat} {Z : List Int} (h : ownI w b (.slice (some ⟨g, 0, none⟩) n cap) Z) (i : Nat) (z : Int) : ownI (w.setCell ⟨g, i, none⟩ (.int .i64 z)) b (.slice (some ⟨g, 0, none⟩) n cap) (Z.set i z) := by
  rcases h.2 with ⟨h0, _⟩ | ⟨g', cap', cur, hv, hb, hg, h1, h2, h3, h4⟩
  · cases h0
  · cases hv
    refine ⟨by simp [icells], .inr ⟨g, cap, cur.setIfInBounds i (.int .i64 z), by simp, hb, heap_setCell_at hg _, by simpa using h1, by simpa using h2, by simpa using h3, ?_⟩⟩
    simp only [List.length_set, Nat.mul_one] at h4 ⊢
    rw [Array.toList_setIfInBounds, List.take_set, h4]
    simp [icells, List.map_set]
def SwapRel (L Z : List Int) (w : World) (r i : Value) (wr : World) : Prop :=
  ∃ (k : Nat) (M : List Int), i = .int .i64 (k : Int) ∧ k ≤ Z.length ∧ M.Perm L ∧ ownI wr w.heap.size r M ∧ Below w.heap.size w wr
theorem swapRel_step {L Z M : List Int} {w wr : World} {g cap k p q : Nat} (hk : k < Z.length) (hM : M.Perm L) (hg : w.heap.size ≤ g) (hp : p < M.length) (hq : q < M.length)
    (ho : ownI wr w.heap.size (.slice (some ⟨g, 0, none⟩) L.length cap) M) (hb : Below w.heap.size w wr) :
    SwapRel L Z w (.slice (some ⟨g, 0, none⟩) L.length cap) (.int .i64 ((k : Int) + 1)) ((wr.setCell ⟨g, p, none⟩ (.int .i64 M[q])).setCell ⟨g, q, none⟩ (.int .i64 M[p])) := by
  have e : swapAt M p q = (M.set p M[q]).set q M[p] := by simp [swapAt, List.getD, hp, hq]
  refine ⟨k + 1, swapAt M p q, by simp, hk, (swapAt_perm M p q hp hq).trans hM, ?_, (hb.setCell hg _).setCell hg _⟩
  rw [e]
  exact (ho.store p _).store q _
/-- Only draws since w3. -/
def PairRel (w3 : World) (n : Nat) (i : Value) (wr : World) : Prop := ∃ k m : Nat, i = .int .i64 (k : Int) ∧ 1 ≤ k ∧ (k ≤ n ∨ k = 1) ∧ wr = w3.drewN m
theorem pairRel_step {w3 wr : World} {n k : Nat} (hk : k < n) (h : ∃ m, wr = w3.drewN m) : PairRel w3 n (.int .i64 ((k : Int) + 1)) wr := by
  obtain ⟨m, hm⟩ := h
  exact ⟨k + 1, m, by simp, by omega, by omega, hm⟩
/-- What is added to may be taken away. -/
theorem add_back {a b s : Int} (h : addOf a b = (s, true)) : s = a + b ∧ s ≤ 9223372036854775807 ∧ 0 ≤ a ∧ 0 ≤ b := by
  unfold addOf at h
  split at h
  · rename_i k; cases h; exact ⟨rfl, k.2.2, k.1, k.2.1⟩
  · cases h
theorem mul_back {a b p : Int} (h : mulOf a b = (p, true)) : p = a * b ∧ p ≤ 9223372036854775807 ∧ 0 ≤ a ∧ 0 ≤ b := by
  unfold mulOf at h
  split at h
  · rename_i k; cases h; exact ⟨rfl, k.2.2, k.1, k.2.1⟩
  · cases h
theorem own_some {w : World} {b n cap : Nat} {a : Option Addr} {M : List Int} (h : ownI w b (.slice a n cap) M) (hM : 0 < M.length) : ∃ g, a = some ⟨g, 0, none⟩ ∧ b ≤ g := by
  rcases h.2 with ⟨h0, h1⟩ | ⟨g', cap', cur, hv, hb, _⟩
  · omega
  · cases hv; exact ⟨g', rfl, hb⟩
/-- What the law asks of two that were added and multiplied. -/
def PairFact (a b s p : Int) (c d : Bool) : Prop := (c = true → s - a = b) ∧ (d = true → a ≠ 0 → 0 < a ∧ 0 ≤ p ∧ p ≤ 9223372036854775807 ∧ p / a = b)
theorem pair_fact {a b s p : Int} {c d : Bool} (h : addOf a b = (s, c)) (k : mulOf a b = (p, d)) : PairFact a b s p c d := by
  refine ⟨?_, ?_⟩
  · rintro rfl
    have := (add_back h).1
    omega
  · rintro rfl ha
    obtain ⟨rfl, h1, h2, h3⟩ := mul_back k
    exact ⟨by omega, Int.mul_nonneg h2 h3, h1, Int.mul_ediv_cancel_left b ha⟩
set_option maxRecDepth 100000 in
set_option maxHeartbeats 1000000 in
theorem checkedOrder_walk (v x : Value) (L Z : List Int) (w : World) (hv : intsAt w v L) (hx : u16sAt w x Z) (hL : L.length ≤ maxLen) (hZ : Z.length ≤ maxLen) (hl : in64 L) (hn : nilNone v) :
    Calls Try.prog 5 #[v, x] w fun e w' => e = .returned (.bool true) ∧ Below w.heap.size w w' := by
  have HV := Lib.hid hv
  obtain ⟨aL, capL, rfl, hcL⟩ := hv
  obtain ⟨aZ, capZ, rfl, hcZ⟩ := hx
  have HL := Lib.hid hcL; have HZ := Lib.hid hcZ; have HN := Lib.hid hn
  clear hcL hcZ hn
  unfold maxLen at hL hZ
  by_cases h : 100 < L.length
  · go_enter Try.func5, Try.ntmps5
    go_wp2_with (go_at_call 6; refine (awake_any _).mono ?_; rintro e w1 ⟨rfl, rfl⟩)
    go_ret
    exact ⟨rfl, Below.refl _ _⟩
  · by_cases h2 : 100 < Z.length
    · go_enter Try.func5, Try.ntmps5
      go_wp2_with (go_at_call 6; refine (awake_any _).mono ?_; rintro e w1 ⟨rfl, rfl⟩)
      go_ret
      exact ⟨rfl, Below.refl _ _⟩
    · have hsI : ¬ (100 : Int) < (L.length : Int) := by omega
      have hzI : ¬ (100 : Int) < (Z.length : Int) := by omega
      go_enter Try.func5, Try.ntmps5
      go_wp2_with fail
      refine (awake_any _).mono ?_
      rintro e w1 ⟨rfl, rfl⟩
      go_wp2_with (at_builtin; refine wpList_append_ints rfl (.tmp 36) (.tmp 37) rfl w1.heap.size _ (.slice aL L.length capL) [] L rfl rfl (own_none w1) (HV.out.below ((Below.refl _ w1).alloc (Nat.le_refl _) _) (Nat.le_refl _)) HN.out (by simp; omega) (by simp) ?_; intro r w2 hown2 hgr2; have hg2 : (w1.alloc (.cells #[] 3)).grownBy w2 (some w1.heap.size) := hgr2; clear hgr2; rw [List.nil_append] at hown2)
      have HB2 : Hid (Below w1.heap.size w1 w2) := Lib.hid (((Below.refl _ w1).alloc (Nat.le_refl _) _).grown hg2 (by simp) fun g hg => by cases hg; exact Nat.le_refl _)
      obtain ⟨a2, cap2, rfl⟩ := hown2.form
      have HO2 := Lib.hid hown2
      clear hown2 hg2
      go_loopw [6] (fun i wr => SwapRel L Z w1 (.slice a2 L.length cap2) i wr) (fun i _ => Z.length + 1 - (intOf i).toNat)
      case atStart => exact ⟨0, L, rfl, by omega, List.Perm.refl _, HO2.out, HB2.out⟩
      case round =>
        obtain ⟨k, M, rfl, hk, hM, hown, hbel⟩ := hrel
        have HM := Lib.hid hM; have HO := Lib.hid hown; have HB := Lib.hid hbel
        have HLM : Hid (M.length = L.length) := Lib.hid hM.length_eq
        clear hM hown hbel
        by_cases hgo : k < Z.length ∧ 0 < L.length
        · obtain ⟨hk1, hl1⟩ := hgo
          have hkI : (k : Int) < (Z.length : Int) := by omega
          have hlI : (0 : Int) < (L.length : Int) := by omega
          obtain ⟨g, rfl, hg⟩ := own_some HO.out (by rw [HLM.out]; exact hl1)
          obtain ⟨ad, rfl, hadb, hcell, q0, q1⟩ := HZ.out k hk1
          have hcell2 : wr.cell? (ad.add k) = some (.int .u16 Z[k]) := by
            rw [← hcell]
            exact HB.out.cell (by rw [add_block]; exact hadb)
          have hp0 := Int.emod_nonneg (k : Int) (b := (L.length : Int)) (by omega)
          have hp1 := Int.emod_lt_of_pos (k : Int) (b := (L.length : Int)) (by omega)
          have hq0 := Int.emod_nonneg Z[k] (b := (L.length : Int)) (by omega)
          have hq1 := Int.emod_lt_of_pos Z[k] (b := (L.length : Int)) (by omega)
          obtain ⟨p, hp⟩ : ∃ p : Nat, (k : Int) % (L.length : Int) = (p : Int) := ⟨((k : Int) % (L.length : Int)).toNat, by omega⟩
          obtain ⟨q, hq⟩ : ∃ q : Nat, Z[k] % (L.length : Int) = (q : Int) := ⟨(Z[k] % (L.length : Int)).toNat, by omega⟩
          have hpL : p < L.length := by omega
          have hqL : q < L.length := by omega
          have hpM : p < M.length := by rw [HLM.out]; exact hpL
          have hqM : q < M.length := by rw [HLM.out]; exact hqL
          clear hp0 hp1 hq0 hq1 hcell
          go_wp2
          go_quiet (fail)
          rw [hp, hq]
          have HOq : Hid (ownI (wr.drewN nq) w1.heap.size (.slice (some ⟨g, 0, none⟩) L.length cap2) M) := Lib.hid HO.out
          have HBq := Lib.hid (below_drewN' HB.out nq)
          clear hp hq hcell2 HO HB
          generalize wr.drewN nq = wp at HOq HBq ⊢
          obtain ⟨cp, fp⟩ := HOq.out.row.cells hpM
          obtain ⟨cq, fq⟩ := HOq.out.row.cells hqM
          go_wp2
          go_quiet (fail)
          have HOr : Hid (ownI (wp.drewN nq) w1.heap.size (.slice (some ⟨g, 0, none⟩) L.length cap2) M) := Lib.hid HOq.out
          have HBr := Lib.hid (below_drewN' HBq.out nq)
          clear HOq HBq cp fp cq fq
          generalize wp.drewN nq = wq at HOr HBr ⊢
          obtain ⟨cp, fp⟩ := HOr.out.row.cells hpM
          obtain ⟨cq, fq⟩ := (HOr.out.store p M[q]).row.cells (j := q) (by simpa using hqM)
          go_wp2
          go_roundw
          case rel => exact swapRel_step hk1 HM.out hg hpM hqM HOr.out HBr.out
          case measure => simp [intOf]; omega
        · have hcase : (¬ (k : Int) < (Z.length : Int)) ∨ ((k : Int) < (Z.length : Int) ∧ ¬ (0 : Int) < (L.length : Int)) := by omega
          have HVr := Lib.hid (HV.out.below HB.out (Nat.le_refl _))
          have HMr := Lib.hid HO.out.reads
          have cS := fun w h => sum_any (.slice aL L.length capL) L w h (by unfold maxLen; omega) hl
          have cM := fun w h => sum_any (.slice a2 L.length cap2) M w h (by unfold maxLen; rw [HLM.out]; omega) (fun z hz => hl z (HM.out.mem_iff.1 hz))
          rw [sum_perm HM.out] at cM
          generalize sumFrom 0 L = s at cS cM
          obtain ⟨s1, s2⟩ := s
          clear hgo
          rcases hcase with hk2 | ⟨hk2, hf2⟩
          all_goals
            go_wp2_with fail
            refine (cS _ HVr.out).mono ?_
            rintro e w4 ⟨rfl, rfl⟩
            go_wp2_with fail
            refine (cM _ HMr.out).mono ?_
            rintro e w5 ⟨rfl, rfl⟩
            go_wp2
            go_loopw [15] (fun i wp => PairRel w5 L.length i wp) (fun i _ => L.length + 1 - (intOf i).toNat)
            case atStart => exact ⟨1, 0, rfl, by omega, .inr rfl, rfl⟩
            case round =>
              obtain ⟨j, m, rfl, hj1, hj2, hwr⟩ := hrel
              have HW := Lib.hid hwr
              clear hwr
              by_cases hgo : j < L.length
              · try omega
                all_goals
                  have hjI : (j : Int) < (L.length : Int) := by omega
                  obtain ⟨i, hi⟩ : ∃ i, j = i + 1 := ⟨j - 1, by omega⟩
                  have hiL : i < L.length := by omega
                  obtain ⟨ad, rfl, hb1, hc1⟩ := HL.out i hiL
                  obtain ⟨ae, hae, hb2, hc2⟩ := HL.out j hgo
                  cases hae
                  obtain ⟨a0, a1⟩ := hl.at (j := i) hiL
                  obtain ⟨b0, b1⟩ := hl.at (j := j) hgo
                  replace hc1 : wr.cell? (ad.add i) = some (.int .i64 L[i]) := by
                    rw [HW.out, ← hc1]
                    exact (below_drewN' HB.out m).cell (by rw [add_block]; exact hb1)
                  replace hc2 : wr.cell? (ad.add j) = some (.int .i64 L[j]) := by
                    rw [HW.out, ← hc2]
                    exact (below_drewN' HB.out m).cell (by rw [add_block]; exact hb2)
                  have e1 : (j : Int) - 1 = (i : Int) := by omega
                  have e5 : IntKind.i64.wrap (i : Int) = (i : Int) := IntWalk.i64_in _ (by omega)
                  have e4 : (i : Int) < (L.length : Int) := by omega
                  clear hi
                  generalize L[i] = a at a0 a1 hc1
                  generalize L[j] = b at b0 b1 hc2
                  have cA := fun w => add_any a b w a0 a1 b0 b1
                  have cB := fun w => add_any b a w b0 b1 a0 a1
                  have cP := fun w => mul_any a b w a0 a1 b0 b1
                  have cQ := fun w => mul_any b a w b0 b1 a0 a1
                  rw [addOf_comm b a] at cB
                  rw [mulOf_comm b a] at cQ
                  obtain ⟨⟨s, c⟩, hs⟩ : ∃ r, addOf a b = r := ⟨_, rfl⟩
                  obtain ⟨⟨p, d⟩, hp⟩ : ∃ r, mulOf a b = r := ⟨_, rfl⟩
                  rw [hs] at cA cB
                  rw [hp] at cP cQ
                  go_wp2
                  go_quiet (fail)
                  clear e1 e5 e4 hc1 hc2
                  have HF : Hid (PairFact a b s p c d) := Lib.hid (pair_fact hs hp)
                  have HQ := Lib.hid (drawn_more HW.out nq)
                  clear hs hp HW
                  generalize wr.drewN nq = wq at HQ ⊢
                  cases c
                  case' true => have hsb := HF.out.1 rfl
                  all_goals cases d
                  case' false.true => by_cases ha : a = 0; subst ha; rotate_left; obtain ⟨ap, p0, p1, hpb⟩ := HF.out.2 rfl ha
                  case' true.true => by_cases ha : a = 0; subst ha; rotate_left; obtain ⟨ap, p0, p1, hpb⟩ := HF.out.2 rfl ha
                  all_goals
                    go_wp2_with fail
                    refine (cA _).mono ?_
                    rintro e w6 ⟨rfl, rfl⟩
                    go_wp2_with fail
                    refine (cB _).mono ?_
                    rintro e w6 ⟨rfl, rfl⟩
                    go_wp2_with fail
                    refine (cP _).mono ?_
                    rintro e w6 ⟨rfl, rfl⟩
                    go_wp2_with fail
                    refine (cQ _).mono ?_
                    rintro e w6 ⟨rfl, rfl⟩
                    go_wp2
                    go_roundw
                    case rel => exact pairRel_step hgo HQ.out
                    case measure => simp [intOf]; omega
              · have hjI : ¬ (j : Int) < (L.length : Int) := by omega
                go_wp2
                go_ret
                exact ⟨rfl, by rw [HW.out]; exact below_drewN' HB.out _⟩
end Go.Proofs.Ytcjefnbnihbncaa
