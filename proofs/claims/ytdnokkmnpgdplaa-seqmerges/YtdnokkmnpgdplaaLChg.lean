/- The law's own 'changes'. -/
import Derived.Test.YtdnokkmnpgdplaaRR
namespace Go.Proofs.Ytdnokkmnpgdplaa
open Go.RowKit Go.Maps
open Go.Sort (grow grow_empty grow_grow alloc_eq_grow heap_grow_old)

def filtC (f : Int × Int → Int) : List (Int × Int) → List Chg
  | [] => []
  | q :: r => if f q = 0 then filtC f r else (q, f q) :: filtC f r
theorem filtC_app (f : Int × Int → Int) : ∀ a b : List (Int × Int), filtC f (a ++ b) = filtC f a ++ filtC f b
  | [], b => rfl
  | q :: r, b => by
    simp only [List.cons_append, filtC]
    split
    · exact filtC_app f r b
    · rw [filtC_app f r b]; rfl
theorem filtC_mem {f : Int × Int → Int} {p : Int × Int} {c : Int} : ∀ {Q : List (Int × Int)}, (p, c) ∈ filtC f Q ↔ p ∈ Q ∧ f p = c ∧ c ≠ 0
  | [] => by simp [filtC]
  | q :: r => by
    simp only [filtC]
    split
    · rename_i h0
      rw [filtC_mem (Q := r), List.mem_cons]
      constructor
      · rintro ⟨h1, h2, h3⟩; exact ⟨.inr h1, h2, h3⟩
      · rintro ⟨h1 | h1, h2, h3⟩
        · rw [h1] at h2; exact absurd (h2.symm.trans h0) h3
        · exact ⟨h1, h2, h3⟩
    · rename_i h0
      rw [List.mem_cons, filtC_mem (Q := r), List.mem_cons]
      constructor
      · rintro (h1 | ⟨h1, h2, h3⟩)
        · cases h1; exact ⟨.inl rfl, rfl, h0⟩
        · exact ⟨.inr h1, h2, h3⟩
      · rintro ⟨h1 | h1, h2, h3⟩
        · exact .inl (by rw [← h2, h1])
        · exact .inr ⟨h1, h2, h3⟩
theorem filtC_rise {f : Int × Int → Int} : ∀ {Q : List (Int × Int)}, Q.Pairwise pb → (filtC f Q).Pairwise fun x y => pb x.1 y.1
  | [], _ => List.Pairwise.nil
  | q :: r, h => by
    rw [List.pairwise_cons] at h
    simp only [filtC]
    split
    · exact filtC_rise h.2
    · exact List.pairwise_cons.2 ⟨fun x hx => h.1 x.1 ((filtC_mem (p := x.1) (c := x.2)).1 hx).1, filtC_rise h.2⟩
theorem cnt_adj : ∀ {X : List Int} {q : Int × Int}, cnt X q ≠ 0 → q ∈ adj X
  | [], _, h => by simp [cnt] at h
  | [_], _, h => by simp [cnt] at h
  | x :: y :: r, q, h => by
    rw [cnt] at h
    rw [adj]
    by_cases e : (x, y) = q
    · simp [e]
    · rw [if_neg e] at h
      exact List.mem_cons_of_mem _ (cnt_adj (by omega))
theorem filt_changes {A B : List Int} {Q : List (Int × Int)} (h : RiseSet Q (adj A ++ adj B)) (hA : FitsX A) (hB : FitsX B) : ChangesOf (fun r => cnt B r - cnt A r) (filtC (fun r => cnt B r - cnt A r) Q) := by
  refine ⟨filtC_rise h.rise, fun p c => ?_⟩
  rw [filtC_mem, h.mem, List.mem_append]
  constructor
  · rintro ⟨h1, h2, h3⟩
    refine ⟨?_, h2, h3⟩
    rcases h1 with e | e
    · exact ⟨hA _ (adj_mem e).1, hA _ (adj_mem e).2⟩
    · exact ⟨hB _ (adj_mem e).1, hB _ (adj_mem e).2⟩
  · rintro ⟨_, h2, h3⟩
    refine ⟨?_, h2, h3⟩
    have h2' : cnt B p - cnt A p = c := h2
    by_cases e : cnt A p = 0
    · exact .inr (cnt_adj (by omega))
    · exact .inl (cnt_adj e)
theorem filt_step {f : Int × Int → Int} {Q : List (Int × Int)} {m : Nat} (hm : m < Q.length) : filtC f (Q.take (m + 1)) = filtC f (Q.take m) ++ (if f Q[m] = 0 then [] else [(Q[m], f Q[m])]) := by
  rw [List.take_add_one, List.getElem?_eq_getElem hm, Option.toList_some, filtC_app]
  congr 1
theorem filt_at {f : Int × Int → Int} {Q : List (Int × Int)} {m : Nat} (hm : m < Q.length) (h0 : ¬ f Q[m] = 0) : ∃ h : (filtC f (Q.take m)).length < (filtC f Q).length, (filtC f Q)[(filtC f (Q.take m)).length]'h = (Q[m], f Q[m]) := by
  have e : filtC f Q = filtC f (Q.take m) ++ ([(Q[m], f Q[m])] ++ filtC f (Q.drop (m + 1))) := by
    have h1 : Q = Q.take (m + 1) ++ Q.drop (m + 1) := (List.take_append_drop _ _).symm
    have h2 := filtC_app f (Q.take (m + 1)) (Q.drop (m + 1))
    rw [← h1, filt_step hm, if_neg h0] at h2
    rw [h2, List.append_assoc]
  have hl : (filtC f (Q.take m)).length < (filtC f Q).length := by rw [e]; simp
  refine ⟨hl, ?_⟩
  have h3 : (filtC f Q)[(filtC f (Q.take m)).length]? = some (Q[m], f Q[m]) := by rw [e]; simp
  rw [List.getElem?_eq_getElem hl] at h3
  exact Option.some.inj h3
theorem filt_len (f : Int × Int → Int) : ∀ Q : List (Int × Int), (filtC f Q).length ≤ Q.length
  | [] => Nat.le_refl _
  | q :: r => by
    have := filt_len f r
    simp only [filtC]
    split <;> simp <;> omega
theorem chg_neq_no (a b c : Int) (w : World) : (binOp .neq 47 (.agg #[.int .i64 a, .int .i64 b, .int .i64 c]) (.agg #[.int .i64 a, .int .i64 b, .int .i64 c])).run Try.prog w = .ok (.bool false) w := by
  have u32 := Try.underlying32
  have u47 := Try.underlying47
  have u3 := Try.underlying3
  simp [go_sem, u32, u3, u47]
def LcRel (w1 : World) (f : Int × Int → Int) (Q : List (Int × Int)) (k i : Value) (wr : World) : Prop :=
  ∃ (m j : Nat), i = .int .i64 (m : Int) ∧ m ≤ Q.length ∧ k = .int .i64 (j : Int) ∧ (filtC f (Q.take m)).length = j ∧ Below w1.heap.size w1 wr
set_option maxRecDepth 100000 in
set_option maxHeartbeats 4000000 in
theorem lchanges_any (vl va vb : Value) (L : List Chg) (A B : List Int) (w : World) (hl : eltsAt chgE w vl L) (ha : eltsAt intE w va A) (hb : eltsAt intE w vb B) (hA : A.length ≤ 300) (hB : B.length ≤ 300) (hc : ChangesOf (fun r => cnt B r - cnt A r) L) (fA : FitsX A) (fB : FitsX B) :
    Calls Try.prog 12 #[vl, va, vb] w fun e w' => e = .returned (.bool true) ∧ Below w.heap.size w w' := by
  have hmixed : Try.prog.follows .mixedOrders = true := by kernel_rfl
  have HL := Lib.hid hl; have HA := Lib.hid ha; have HB := Lib.hid hb; have HC := Lib.hid hc; have HFA := Lib.hid fA; have HFB := Lib.hid fB
  obtain ⟨al, cl, rfl, _⟩ := hl
  have cR := rrising_any va vb A B w ha hb hA hB
  clear ha hb hc fA fB
  go_enter Try.func12, Try.ntmps12
  go_wp2_with fail
  refine cR.mono ?_
  rintro e w1 ⟨vq, Q, rfl, hq, hrs, hb1⟩
  have HB1 := Lib.hid hb1
  have HQ := Lib.hid hq.reads
  obtain ⟨f, hf⟩ : ∃ f : Int × Int → Int, f = fun r => cnt B r - cnt A r := ⟨_, rfl⟩
  have hLQ : filtC f Q = L := by rw [hf]; exact changes_unique (filt_changes hrs HFA.out HFB.out) HC.out
  have HLQ := Lib.hid hLQ
  have hQl : Q.length ≤ 600 := by have h1 := hrs.len; have h3 := adj_len A; have h4 := adj_len B; simp at h1; omega
  obtain ⟨aq, cq, rfl, _⟩ := hq.form
  have HFF : Hid (∀ q, f q = cnt B q - cnt A q) := Lib.hid fun q => by rw [hf]
  have HL1 := Lib.hid (HL.out.below hb1 (Nat.le_refl _)); have HA1 := Lib.hid (HA.out.below hb1 (Nat.le_refl _)); have HB1' := Lib.hid (HB.out.below hb1 (Nat.le_refl _))
  clear cR hb1 hq hrs hLQ hf
  go_wp2
  go_loopw [7, 9] (fun k i wr => LcRel w1 f Q k i wr) (fun _ i _ => Q.length - (intOf i).toNat)
  case atStart => exact ⟨0, 0, rfl, Nat.zero_le _, rfl, rfl, Below.refl _ w1⟩
  case round =>
    obtain ⟨m, j, rfl, hm, rfl, hj, hbel⟩ := hrel
    have HBE := Lib.hid hbel
    clear hbel
    by_cases hgo : m < Q.length
    · obtain ⟨ad, rfl⟩ := pair_some HQ.out hgo
      have key : ∀ n os, Below w1.heap.size w1 (grow (wr.drewN n) os) := fun n os => HBE.out.trans ((grown_below wr n os).mono HBE.out.size)
      obtain ⟨y0, hy0⟩ : ∃ y0, Q[m].1 = y0 := ⟨_, rfl⟩
      obtain ⟨y1, hy1⟩ : ∃ y1, Q[m].2 = y1 := ⟨_, rfl⟩
      have HY : Hid (Q[m] = (y0, y1)) := Lib.hid (Prod.ext hy0 hy1)
      have q0 : ∀ n os, (grow (wr.drewN n) os).cell? (ad.add (m * 2)) = some (.int .i64 y0) := fun n os => by have := (pairs_at HQ.out (key n os) hgo).1; rwa [hy0] at this
      have q1 : ∀ n os, (grow (wr.drewN n) os).cell? ⟨(ad.add (m * 2)).block, (ad.add (m * 2)).off + 1, none⟩ = some (.int .i64 y1) := fun n os => by have := (pairs_at HQ.out (key n os) hgo).2; rwa [hy1] at this
      have cB : ∀ n os, Calls Try.prog 21 #[vb, .agg #[.int .i64 y0, .int .i64 y1]] (grow (wr.drewN n) os) fun e w'' => e = .returned (.int .i64 (cnt B (y0, y1))) ∧ ∃ p : GrownBy, w'' = grow (wr.drewN p.n) p.os := fun n os => Calls.grown_of (count_any vb B y0 y1 _ (HB1'.out.below (key n os) (Nat.le_refl _)) (by omega))
      have cA : ∀ n os, Calls Try.prog 21 #[va, .agg #[.int .i64 y0, .int .i64 y1]] (grow (wr.drewN n) os) fun e w'' => e = .returned (.int .i64 (cnt A (y0, y1))) ∧ ∃ p : GrownBy, w'' = grow (wr.drewN p.n) p.os := fun n os => Calls.grown_of (count_any va A y0 y1 _ (HA1.out.below (key n os) (Nat.le_refl _)) (by omega))
      have hmI : (m : Int) < (Q.length : Int) := by omega
      have b1 := cnt_le A (y0, y1); have b2 := cnt_le B (y0, y1); have b3 := cnt_nonneg A (y0, y1); have b4 := cnt_nonneg B (y0, y1)
      obtain ⟨d, hd⟩ : ∃ d, f Q[m] = d := ⟨_, rfl⟩
      have hwd : IntKind.i64.wrap (cnt B (y0, y1) - cnt A (y0, y1)) = d := by rw [← hd, HY.out, HFF.out]; exact IntWalk.i64_in _ (by omega)
      have HD := Lib.hid hd
      clear key hy0 hy1 b1 b2 b3 b4 hd
      by_cases hz : d = 0
      · subst hz
        go_wp2_with fail
        go_quiet_grown (first | (go_at_call 21; with_reducible refine cB _ _) | (go_at_call 21; with_reducible refine cA _ _))
        have HGZ : Hid (Below w1.heap.size w1 (grow (wr.drewN nq) osq)) := Lib.hid (HBE.out.trans ((grown_below wr _ _).mono HBE.out.size))
        clear q0 q1 cA cB
        generalize grow (wr.drewN nq) osq = wz at *
        go_wp2
        go_roundw
        case measure => simp [intOf]; omega
        case rel => exact ⟨m + 1, j, by simp, hgo, rfl, by rw [filt_step hgo, if_pos HD.out]; simpa using hj, HGZ.out⟩
      · obtain ⟨g1, g2⟩ := filt_at (f := f) hgo (by rw [HD.out]; exact hz)
        have hjl : j < L.length := by rw [← hj, ← HLQ.out]; exact g1
        have hLj : L[j] = ((y0, y1), d) := by
          have e1 : L[j]? = some (Q[m], f Q[m]) := by rw [← HLQ.out, ← hj, List.getElem?_eq_getElem g1, g2]
          rw [List.getElem?_eq_getElem hjl] at e1
          rw [Option.some.inj e1, HD.out, HY.out]
        have HLJ := Lib.hid hLj
        have hjI : (j : Int) < (L.length : Int) := by omega
        have hjB : decide ((L.length : Int) ≤ (j : Int)) = false := decide_eq_false (by omega)
        have hwj : IntKind.i64.wrap ((j : Int) + 1) = (j : Int) + 1 := IntWalk.i64_in _ (by have h1 := g1; rw [HLQ.out] at h1; have : L.length ≤ 600 := (by rw [← HLQ.out]; exact Nat.le_trans (filt_len f Q) hQl); omega)
        clear g1 g2 hLj
        go_wp2_with fail
        go_quiet_grown (first | (go_at_call 21; with_reducible refine cB _ _) | (go_at_call 21; with_reducible refine cA _ _))
        have HGZ : Hid (Below w1.heap.size w1 (grow (wr.drewN nq) osq)) := Lib.hid (HBE.out.trans ((grown_below wr _ _).mono HBE.out.size))
        clear q0 q1 cA cB
        generalize grow (wr.drewN nq) osq = wz at *
        obtain ⟨q0, q1⟩ := pairs_at HQ.out HGZ.out hgo
        rw [HY.out] at q0 q1
        simp only at q0 q1
        obtain ⟨al', rfl, l0, l1, l2⟩ := chg_at (HL1.out.below HGZ.out (Nat.le_refl _)) hjl
        rw [HLJ.out] at l0 l1 l2
        simp only at l0 l1 l2
        have hnq := chg_neq_no y0 y1 d
        go_wp2_with fail
        go_quiet (fail)
        have HGY : Hid (Below w1.heap.size w1 (wz.drewN nq)) := Lib.hid (below_drewN' HGZ.out nq)
        clear q0 q1 l0 l1 l2
        generalize wz.drewN nq = wy at *
        go_wp2
        go_roundw
        case measure => simp [intOf]; omega
        case rel => exact ⟨m + 1, j + 1, by simp, hgo, by simp, by rw [filt_step hgo, if_neg (by rw [HD.out]; exact hz)]; simpa using hj, HGY.out⟩
    · have hT : Q.take m = Q := List.take_of_length_le (by omega)
      rw [hT, HLQ.out] at hj
      subst hj
      go_wp2
      go_ret
      exact ⟨rfl, HB1.out.trans (HBE.out.mono HB1.out.size)⟩
end Go.Proofs.Ytdnokkmnpgdplaa
