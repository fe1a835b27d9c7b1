/- The document's Rising. -/
import Derived.Test.YtdnokkmnpgdplaaRM
namespace Go.Proofs.Ytdnokkmnpgdplaa
open Go.RowKit Go.Maps
open Go.Sort (grow grow_empty grow_grow alloc_eq_grow heap_grow_old)

/-! Pairs in a rising list: plain lists. -/
structure RiseSet (Q S : List (Int × Int)) : Prop where
  rise : Q.Pairwise pb
  mem : ∀ q, q ∈ Q ↔ q ∈ S
  len : Q.length ≤ S.length
theorem rise_none : RiseSet [] [] := ⟨List.Pairwise.nil, fun _ => Iff.rfl, Nat.le_refl _⟩
theorem rise_skip {Q S : List (Int × Int)} {p : Int × Int} (h : RiseSet Q S) (hp : p ∈ Q) : RiseSet Q (S ++ [p]) := by
  refine ⟨h.rise, fun q => ?_, by have := h.len; simp; omega⟩
  rw [List.mem_append, List.mem_singleton, h.mem]
  constructor
  · exact .inl
  · rintro (e | e)
    · exact e
    · rw [e, ← h.mem]; exact hp
theorem rise_put {Q S : List (Int × Int)} {p : Int × Int} {t : Nat} (h : RiseSet Q S) (ht : t ≤ Q.length) (hlo : ∀ x (hx : x < Q.length), x < t → pb Q[x] p) (hhi : ∀ hx : t < Q.length, pb p Q[t]) : RiseSet (Q.take t ++ [p] ++ Q.drop t) (S ++ [p]) := by
  have hpw := List.pairwise_iff_getElem.1 h.rise
  have low : ∀ x ∈ Q.take t, pb x p := by
    intro x hx
    obtain ⟨k, hk, rfl⟩ := List.getElem_of_mem hx
    rw [List.getElem_take]
    exact hlo k (by simp at hk; omega) (by simp at hk; omega)
  have high : ∀ x ∈ Q.drop t, pb p x := by
    intro x hx
    obtain ⟨k, hk, rfl⟩ := List.getElem_of_mem hx
    rw [List.getElem_drop]
    have hk' : t + k < Q.length := by simp at hk; omega
    cases k with
    | zero => exact hhi hk'
    | succ k => exact pb_trans (hhi (by omega)) (hpw t (t + (k + 1)) (by omega) hk' (by omega))
  refine ⟨?_, fun q => ?_, by have := h.len; simp; omega⟩
  · have hd := h.rise
    rw [← List.take_append_drop t Q, List.pairwise_append] at hd
    rw [List.append_assoc, List.pairwise_append, List.singleton_append, List.pairwise_cons]
    refine ⟨hd.1, ⟨high, hd.2.1⟩, fun x hx y hy => ?_⟩
    rcases List.mem_cons.1 hy with e | e
    · rw [e]; exact low x hx
    · exact hd.2.2 x hx y e
  · have e : q ∈ Q ↔ q ∈ Q.take t ∨ q ∈ Q.drop t := by rw [← List.mem_append, List.take_append_drop]
    rw [List.mem_append, List.mem_append, List.mem_append, List.mem_singleton, ← h.mem, e]
    constructor
    · rintro ((h1 | h1) | h1)
      · exact .inl (.inl h1)
      · exact .inr h1
      · exact .inl (.inr h1)
    · rintro ((h1 | h1) | h1)
      · exact .inl (.inl h1)
      · exact .inr h1
      · exact .inl (.inr h1)
theorem adj_get : ∀ (X : List Int) (m : Nat) (h : m + 1 < X.length), (adj X)[m]? = some (X[m], X[m + 1])
  | [], m, h => by simp at h
  | [_], m, h => by simp at h
  | x :: y :: r, 0, h => rfl
  | x :: y :: r, m + 1, h => by
    have := adj_get (y :: r) m (by simpa using h)
    rw [adj]; simpa using this
theorem adj_take {X : List Int} {m : Nat} (h : m + 1 < X.length) : (adj X).take (m + 1) = (adj X).take m ++ [(X[m], X[m + 1])] := by
  rw [List.take_add_one, adj_get X m h]; rfl
/-! Cuts of rows of pairs. -/
theorem sizePairs (w : World) : (sizeOf (Try.prog.elem 44)).run Try.prog w = .ok 2 w := by
  obtain ⟨j0, hj, hy0, hy1, hy2⟩ := info_parts pairE.info
  have he : Try.prog.elem 44 = pairE.ty := by kernel_rfl
  rw [he]
  simp [sizeOf, typeInfo, hj, hy1]
  rfl
theorem elemPairs : Try.prog.underlying 44 = some (.slice (Try.prog.elem 44)) := by kernel_rfl
theorem pairs_head (a : Option Addr) (len cap k : Nat) (K : Int) (hK : K = (k : Int)) (hk : k ≤ cap) (hn : nilNone (.slice a len cap)) : ∃ v, (∀ w, (Instr.slice 44 (.slice a len cap) none (some (.int .i64 K)) none).run Try.prog w = .ok v w) ∧ nilNone v ∧
    ∀ w L, eltsAt pairE w (.slice a len cap) L → k ≤ L.length → eltsAt pairE w v (L.take k) := by
  subst hK
  refine ⟨sliced a 0 k cap 2, fun w => ?_, ?_, ?_⟩
  · rw [run_slice_h w 44 a len cap elemPairs .i64 k (by omega) (by omega), sizePairs]
    simp
  · intro n c e
    unfold sliced at e
    cases a with
    | none => have := hn _ _ rfl; subst this; simp at e; omega
    | some a => simp at e; split at e <;> simp at e
  · rintro w L ⟨a', cap', e, hc⟩ hkL
    obtain ⟨rfl, rfl, rfl⟩ := Value.slice.inj e
    unfold sliced
    refine ⟨_, cap - 0, by rw [List.length_take, Nat.min_eq_left hkL]; rfl, fun j hj => ?_⟩
    rw [List.length_take] at hj
    obtain ⟨ad, rfl, hlt, hcj⟩ := hc j (by omega)
    refine ⟨ad, ?_, hlt, fun i u hu => hcj i u ?_⟩
    · split <;> simp [add_zero_any]
    · rw [List.getElem_take] at hu; exact hu
theorem pairs_tail (a : Option Addr) (len cap l : Nat) (K : Int) (hK : K = (l : Int)) (hl : l ≤ len) (hc : len ≤ cap) (hn : nilNone (.slice a len cap)) : ∃ v, (∀ w, (Instr.slice 44 (.slice a len cap) (some (.int .i64 K)) none none).run Try.prog w = .ok v w) ∧ nilNone v ∧
    ∀ w L, eltsAt pairE w (.slice a len cap) L → eltsAt pairE w v (L.drop l) := by
  subst hK
  refine ⟨sliced a l len cap 2, fun w => ?_, ?_, ?_⟩
  · rw [run_slice_l w 44 a len cap elemPairs .i64 l (by omega) (by omega), sizePairs]
    simp
  · intro n c e
    unfold sliced at e
    cases a with
    | none => have := hn _ _ rfl; subst this; simp at e; omega
    | some a => simp at e; split at e <;> simp at e
  · rintro w L ⟨a', cap', e, hcL⟩
    obtain ⟨rfl, rfl, rfl⟩ := Value.slice.inj e
    unfold sliced
    refine ⟨_, cap - l, by rw [List.length_drop], fun j hj => ?_⟩
    rw [List.length_drop] at hj
    obtain ⟨ad, rfl, hlt, hcj⟩ := hcL (l + j) (by omega)
    refine ⟨ad.add (l * 2), ?_, by rw [add_block]; exact hlt, fun i u hu => ?_⟩
    · rw [if_neg (by omega)]; simp
    · rw [List.getElem_drop] at hu
      have := hcj i u hu
      rw [show pairE.n = 2 from rfl] at this ⊢
      rw [add_add_any, show l * 2 + (j * 2 + i) = (l + j) * 2 + i by omega]
      exact this
theorem pair_eql_no {a b c d : Int} (h : ¬ (a, b) = (c, d)) (w : World) : (binOp .eql 32 (.agg #[.int .i64 a, .int .i64 b]) (.agg #[.int .i64 c, .int .i64 d])).run Try.prog w = .ok (.bool false) w := by
  have h' : ¬ (a = c ∧ b = d) := fun e => h (by rw [e.1, e.2])
  have u32 := Try.underlying32
  have u3 := Try.underlying3
  by_cases e : a = c
  · have e2 : ¬ b = d := fun k => h' ⟨e, k⟩
    subst e
    simp [go_sem, u32, u3, e2]
  · simp [go_sem, u32, u3, e]
theorem own0P (wz : World) : ownE pairE (wz.alloc (.cells #[] 32)) wz.heap.size (.slice (some ⟨wz.heap.size, 0, none⟩) 0 0) [] :=
  ⟨by simp [ecells], .inr ⟨wz.heap.size, 0, #[], rfl, Nat.le_refl _, heap_alloc_new wz _, Nat.le_refl _, by unfold maxLen; omega, by simp, by simp [ecells]⟩⟩
theorem below_ownE {α : Type} {R : Elt α} {wz W w2 : World} {v : Value} {n : List α} (h : Below wz.heap.size wz W) (hg : W.grownBy w2 v.ownBlock) (ho : ownE R W wz.heap.size v n) : Below wz.heap.size wz w2 := h.grown hg h.size fun k e => (ho.lt k e).1
/-! What holds in the loops. -/
def sOf (A B : List Int) : Nat → List (Int × Int)
  | 0 => []
  | 1 => adj A
  | _ => adj A ++ adj B
def RiRel (w : World) (A B : List Int) (o k : Value) (wr : World) : Prop :=
  ∃ (j : Nat) (kz : Int) (Q : List (Int × Int)), k = .int .i64 kz ∧ kz = (j : Int) ∧ j ≤ 2 ∧ ownE pairE wr w.heap.size o Q ∧ RiseSet Q (sOf A B j) ∧ Below w.heap.size w wr
def InRel (w : World) (S0 : List (Int × Int)) (X : List Int) (o i : Value) (wr : World) : Prop :=
  ∃ (m : Nat) (Q : List (Int × Int)), i = .int .i64 (m : Int) ∧ m ≤ X.length ∧ ownE pairE wr w.heap.size o Q ∧ RiseSet Q (S0 ++ (adj X).take m) ∧ Below w.heap.size w wr
def AtP (wb : World) (Q : List (Int × Int)) (p : Int × Int) (y : Value) (wr : World) : Prop :=
  ∃ t : Nat, y = .int .i64 (t : Int) ∧ t ≤ Q.length ∧ (∀ x (hx : x < Q.length), x < t → pb Q[x] p) ∧ ∃ n os, wr = grow (wb.drewN n) os
theorem grown_below (w : World) (n : Nat) (os : Array Obj) : Below w.heap.size w (grow (w.drewN n) os) := ⟨rfl, rfl, rfl, by simp [World.drewN], fun k hk => heap_grow_old _ _ hk⟩
theorem grown_trans (wb : World) (n m : Nat) (os os' : Array Obj) : ∃ k o, grow ((grow (wb.drewN n) os).drewN m) os' = grow (wb.drewN k) o :=
  ⟨n + m, os ++ os', by show grow (grow ((wb.drewN n).drewN m) os) os' = _; rw [grow_grow, World.drewN_drewN]⟩
theorem grown_drewN (wb : World) (n m : Nat) (os : Array Obj) : ∃ k o, (grow (wb.drewN n) os).drewN m = grow (wb.drewN k) o :=
  ⟨n + m, os, by show grow ((wb.drewN n).drewN m) os = _; rw [World.drewN_drewN]⟩
theorem in_step {w W : World} {S0 Q' : List (Int × Int)} {X : List Int} {m : Nat} {o : Value} (h2 : m + 1 < X.length) (ho : ownE pairE W w.heap.size o Q') (hr : RiseSet Q' (S0 ++ (adj X).take m ++ [(X[m], X[m + 1])])) (hb : Below w.heap.size w W) : InRel w S0 X o (.int .i64 ((m : Int) + 1)) W :=
  ⟨m + 1, Q', by simp, by omega, ho, by rw [adj_take h2, ← List.append_assoc]; exact hr, hb⟩
set_option maxRecDepth 100000 in
set_option maxHeartbeats 16000000 in
theorem rrising_any (va vb : Value) (A B : List Int) (w : World) (ha : eltsAt intE w va A) (hb : eltsAt intE w vb B) (hA : A.length ≤ 300) (hB : B.length ≤ 300) :
    Calls Try.prog 20 #[va, vb] w fun e w' => ∃ v Q, e = .returned v ∧ ownE pairE w' w.heap.size v Q ∧ RiseSet Q (adj A ++ adj B) ∧ Below w.heap.size w w' := by
  have HVA := Lib.hid ha; have HVB := Lib.hid hb
  have hmixed : Try.prog.follows .mixedOrders = true := by kernel_rfl
  obtain ⟨aa, ca, rfl, _⟩ := ha
  obtain ⟨ab, cb, rfl, _⟩ := hb
  go_enter Try.func20, Try.ntmps20
  go_wp2
  go_loopw [5, 6] (fun o k wr => RiRel w A B o k wr) (fun _ k _ => 2 - (intOf k).toNat)
  case atStart => exact ⟨0, 0, [], rfl, rfl, by omega, ownE.nil w _, rise_none, Below.refl _ w⟩
  case round =>
    obtain ⟨j, kz, Q, rfl, hkz, hj, ho, hrs, hbel⟩ := hrel
    have HO := Lib.hid ho; have HRS := Lib.hid hrs; have HB := Lib.hid hbel
    clear ho hrs hbel
    match j, hj with
    | 0, _ =>
      obtain rfl : kz = 0 := by omega
      clear hkz
      go_wp2
      go_loopw [5, 8] (fun o i wr => InRel w [] A o i wr) (fun _ i _ => A.length - (intOf i).toNat)
      case atStart => exact ⟨0, Q, rfl, Nat.zero_le _, HO.out, by simpa [sOf] using HRS.out, HB.out⟩
      case round =>
        clear HO HRS HB
        obtain ⟨m, Q, rfl, hm, ho, hrs, hbel⟩ := hrel
        have HO := Lib.hid ho; have HRS := Lib.hid hrs; have HB := Lib.hid hbel
        have hQl : Q.length ≤ 1000 := by have h1 := hrs.len; have h3 := adj_len A; have h4 := adj_len B; simp at h1; omega
        obtain ⟨aq, cq, rfl, hcq⟩ := ho.form
        have HNN := Lib.hid ho.nilNone
        clear ho hrs hbel
        obtain ⟨wo, hwo⟩ : ∃ wo, wo = wr := ⟨_, rfl⟩
        subst hwo
        have hwm : IntKind.i64.wrap ((m : Int) + 1) = (m : Int) + 1 := IntWalk.i64_in _ (by omega)
        by_cases h2 : m + 1 < A.length
        · obtain ⟨ad, rfl, c0⟩ := int_at (HVA.out.below HB.out (Nat.le_refl _)) (k := m) (by omega)
          obtain ⟨ad', e', c1⟩ := int_at (HVA.out.below HB.out (Nat.le_refl _)) h2
          cases e'
          obtain ⟨x0, hx0⟩ : ∃ x0, A[m] = x0 := ⟨_, rfl⟩
          obtain ⟨x1, hx1⟩ : ∃ x1, A[m + 1] = x1 := ⟨_, rfl⟩
          rw [hx0] at c0
          rw [hx1, add_succ] at c1
          have baz := (Below.refl wo.heap.size wo).alloc (Nat.le_refl _) (.cells #[.int .i64 0, .int .i64 0] 32)
          have hadb := block_of_cell c0
          have e0 : (wo.alloc (.cells #[.int .i64 0, .int .i64 0] 32)).cell? (ad.add m) = some (.int .i64 x0) := (baz.cell (by rw [add_block]; exact block_of_cell c0)).trans c0
          have e1 : (wo.alloc (.cells #[.int .i64 0, .int .i64 0] 32)).cell? ⟨ad.block, ad.off + (m + 1), none⟩ = some (.int .i64 x1) := (baz.cell (show (⟨ad.block, ad.off + (m + 1), none⟩ : Addr).block < wo.heap.size from hadb)).trans c1
          have HX0 := Lib.hid hx0; have HX1 := Lib.hid hx1
          clear baz hadb
          clear hx0 hx1
          have i1 : (m : Int) < (A.length : Int) := by omega
          have i2 : (0 : Int) ≤ (m : Int) + 1 := by omega
          have i3 : (m : Int) + 1 < (A.length : Int) := by omega
          have i4 : ((m : Int) + 1).toNat = m + 1 := by omega
          obtain ⟨wb, hwb⟩ : ∃ wb, wb = (wo.alloc (.cells #[.int .i64 x0, .int .i64 x1] 32)).drew := ⟨_, rfl⟩
          have HBB : Hid (Below wo.heap.size wo wb) := Lib.hid (by rw [hwb]; exact ((Below.refl _ wo).alloc (Nat.le_refl _) _).drew)
          have bx0 : wb.cell? ⟨wo.heap.size, 0, none⟩ = some (.int .i64 x0) := by rw [hwb]; show (wo.alloc _).cell? _ = _; simp
          have bx1 : wb.cell? ⟨wo.heap.size, 1, none⟩ = some (.int .i64 x1) := by rw [hwb]; show (wo.alloc _).cell? _ = _; simp
          have hbl : wo.heap.size < wb.heap.size := by rw [hwb]; show _ < (wo.alloc _).heap.size; simp
          have HBX0 : Hid (∀ W, Below wb.heap.size wb W → W.cell? ⟨wo.heap.size, 0, none⟩ = some (.int .i64 x0) ∧ W.cell? ⟨wo.heap.size, 1, none⟩ = some (.int .i64 x1)) := Lib.hid fun W hW => ⟨(hW.cell hbl).trans bx0, (hW.cell hbl).trans bx1⟩
          have HWB : Hid (Below w.heap.size w wb) := Lib.hid (HB.out.trans (HBB.out.mono HB.out.size))
          have HQB : Hid (eltsAt pairE wb (.slice aq Q.length cq) Q) := Lib.hid (HO.out.reads.below HBB.out (Nat.le_refl _))
          have HOB : Hid (ownE pairE wb w.heap.size (.slice aq Q.length cq) Q) := Lib.hid (HO.out.below HBB.out)
          have hwb' := hwb.symm
          clear hwb bx0 bx1 hbl
          go_wp2_with fail
          go_region
          all_goals (go_wp2_with fail)
          clear hwb' c0 c1 e0 e1
          obtain ⟨bp, hbp⟩ : ∃ bp, bp = wo.heap.size := ⟨_, rfl⟩
          rw [← hbp]
          rw [← hbp] at HBX0
          clear hbp
          go_loopw [10] (fun y wr => AtP wb Q (x0, x1) y wr) (fun y _ => Q.length - (intOf y).toNat)
          case atStart => exact ⟨0, rfl, Nat.zero_le _, fun x hx h => by omega, 0, #[], by rw [grow_empty]; rfl⟩
          case round =>
            obtain ⟨t, rfl, ht, hlo, n0, os0, hwr⟩ := hrel
            have HLO := Lib.hid hlo
            have HGR := Lib.hid hwr
            have HGB : Hid (Below wb.heap.size wb wr) := Lib.hid (by rw [hwr]; exact grown_below _ _ _)
            clear hlo hwr
            by_cases hgt : t < Q.length
            · obtain ⟨aqd, rfl⟩ := pair_some HQB.out hgt
              have key : ∀ n os, Below wb.heap.size wb (grow (wr.drewN n) os) := fun n os => HGB.out.trans ((grown_below wr n os).mono HGB.out.size)
              obtain ⟨y0, hy0⟩ : ∃ y0, Q[t].1 = y0 := ⟨_, rfl⟩
              obtain ⟨y1, hy1⟩ : ∃ y1, Q[t].2 = y1 := ⟨_, rfl⟩
              have HY : Hid (Q[t] = (y0, y1)) := Lib.hid (Prod.ext hy0 hy1)
              have q0 : ∀ n os, (grow (wr.drewN n) os).cell? (aqd.add (t * 2)) = some (.int .i64 y0) := fun n os => by have := (pairs_at HQB.out (key n os) hgt).1; rwa [hy0] at this
              have q1 : ∀ n os, (grow (wr.drewN n) os).cell? ⟨(aqd.add (t * 2)).block, (aqd.add (t * 2)).off + 1, none⟩ = some (.int .i64 y1) := fun n os => by have := (pairs_at HQB.out (key n os) hgt).2; rwa [hy1] at this
              have z0 : ∀ n os, (grow (wr.drewN n) os).cell? ⟨bp, 0, none⟩ = some (.int .i64 x0) := fun n os => (HBX0.out _ (key n os)).1
              have z1 : ∀ n os, (grow (wr.drewN n) os).cell? ⟨bp, 1, none⟩ = some (.int .i64 x1) := fun n os => (HBX0.out _ (key n os)).2
              have cG : ∀ n os, Calls Try.prog 27 #[.agg #[.int .i64 y0, .int .i64 y1], .agg #[.int .i64 x0, .int .i64 x1]] (grow (wr.drewN n) os) fun e w'' => e = .returned (.bool (decide (pb (y0, y1) (x0, x1)))) ∧ ∃ p : GrownBy, w'' = grow (wr.drewN p.n) p.os := fun n os => Calls.grown_of (before_any y0 y1 x0 x1 _)
              have htI : (t : Int) < (Q.length : Int) := by omega
              have htB : decide ((t : Int) < (Q.length : Int)) = true := decide_eq_true htI
              clear key hy0 hy1
              by_cases tb : pb (y0, y1) (x0, x1)
              · have etb : decide (pb (y0, y1) (x0, x1)) = true := decide_eq_true tb
                rw [etb] at cG
                go_wp2_with fail
                go_quiet_grown (first | (go_at_call 27; refine cG _ _))
                have HGZ : Hid (∃ n os, grow (wr.drewN nq) osq = grow (wb.drewN n) os) := Lib.hid (by rw [HGR.out]; exact grown_trans _ _ _ _ _)
                clear q0 q1 z0 z1 cG
                generalize grow (wr.drewN nq) osq = wz at *
                go_wp2
                go_roundw
                case rel =>
                  refine ⟨t + 1, by simp, by omega, fun x hx h => ?_, HGZ.out⟩
                  by_cases ex : x = t
                  · subst ex; rw [HY.out]; exact tb
                  · exact HLO.out x hx (by omega)
                case measure => simp [intOf]; omega
              · have etb : decide (pb (y0, y1) (x0, x1)) = false := decide_eq_false tb
                rw [etb] at cG
                go_wp2_with fail
                go_quiet_grown (first | (go_at_call 27; refine cG _ _))
                have HGZ : Hid (Below wb.heap.size wb (grow (wr.drewN nq) osq)) := Lib.hid (HGB.out.trans ((grown_below wr _ _).mono HGB.out.size))
                clear q0 q1 z0 z1 cG
                generalize grow (wr.drewN nq) osq = wy at *
                obtain ⟨q0, q1⟩ := pairs_at HQB.out HGZ.out hgt
                obtain ⟨z0, z1⟩ := HBX0.out _ HGZ.out
                rw [HY.out] at q0 q1
                simp only at q0 q1
                by_cases eqp : (y0, y1) = (x0, x1)
                · obtain ⟨rfl, rfl⟩ := Prod.mk.inj eqp
                  have HSK := Lib.hid (rise_skip HRS.out (p := (y0, y1)) (by rw [← HY.out]; exact List.getElem_mem _))
                  clear eqp
                  go_wp2_with fail
                  go_quiet (fail)
                  have HZB : Hid (Below w.heap.size w (wy.drewN nq)) := Lib.hid (HWB.out.trans ((below_drewN' HGZ.out nq).mono HWB.out.size))
                  have HOZ := Lib.hid ((HOB.out.below HGZ.out).drewN nq)
                  generalize wy.drewN nq = wz at *
                  go_wp2
                  go_roundw
                  case measure => simp [intOf]; omega
                  case rel => exact in_step h2 HOZ.out (by rw [HX0.out, HX1.out]; exact HSK.out) HZB.out
                · have HPUT := Lib.hid (rise_put (t := t) (p := (x0, x1)) HRS.out ht HLO.out fun hx => (by rw [HY.out]; exact ((pb_total eqp).resolve_left tb)))
                  have hne1 := fun w => pair_eql_no eqp w
                  have hne2 : (y0 == x0 && y1 == x1) = false := by
                    cases hq : (y0 == x0 && y1 == x1) with
                    | false => rfl
                    | true => simp at hq; exact absurd (by rw [hq.1, hq.2]) eqp
                  have hne3 : y0 = x0 → ¬ y1 = x1 := fun e1 e2 => eqp (by rw [e1, e2])
                  go_wp2_with fail
                  go_quiet (fail)
                  have HBX : Hid (∀ W, Below (wy.drewN nq).heap.size (wy.drewN nq) W → W.cell? ⟨bp, 0, none⟩ = some (.int .i64 x0) ∧ W.cell? ⟨bp, 1, none⟩ = some (.int .i64 x1)) := Lib.hid fun W hW => HBX0.out W ((below_drewN' HGZ.out nq).trans (hW.mono (below_drewN' HGZ.out nq).size))
                  have HQZ : Hid (eltsAt pairE (wy.drewN nq) (.slice (some aqd) Q.length cq) Q) := Lib.hid (HQB.out.below (below_drewN' HGZ.out nq) (Nat.le_refl _))
                  have HZB : Hid (Below w.heap.size w (wy.drewN nq)) := Lib.hid (HWB.out.trans ((below_drewN' HGZ.out nq).mono HWB.out.size))
                  have HZS : Hid (w.heap.size ≤ (wy.drewN nq).heap.size) := Lib.hid HZB.out.size
                  clear q0 q1 z0 z1
                  generalize wy.drewN nq = wz at *
                  obtain ⟨vh, hvh, nh, eh⟩ := pairs_head (some aqd) Q.length cq t (t : Int) (by omega) (by omega) HNN.out
                  obtain ⟨vt, hvt, nt, et⟩ := pairs_tail (some aqd) Q.length cq t (t : Int) (by omega) (by omega) hcq HNN.out
                  obtain ⟨T1, hT1⟩ : ∃ T1, T1 = Q.take t := ⟨_, rfl⟩
                  obtain ⟨T2, hT2⟩ : ∃ T2, T2 = Q.drop t := ⟨_, rfl⟩
                  have HT1l : Hid (T1.length ≤ 1000) := Lib.hid (by rw [hT1, List.length_take]; omega)
                  have HT2l : Hid (T2.length ≤ 1000) := Lib.hid (by rw [hT2, List.length_drop]; omega)
                  have HEH : Hid (∀ W, Below wz.heap.size wz W → eltsAt pairE W vh T1) := Lib.hid (fun W hW => by rw [hT1]; exact eh W _ (HQZ.out.below hW (Nat.le_refl _)) (by omega))
                  have HET : Hid (∀ W, Below wz.heap.size wz W → eltsAt pairE W vt T2) := Lib.hid (fun W hW => by rw [hT2]; exact et W _ (HQZ.out.below hW (Nat.le_refl _)))
                  have HNH := Lib.hid nh
                  have HNT := Lib.hid nt
                  have HT := Lib.hid (And.intro hT1 hT2)
                  clear eh et nh nt hT1 hT2
                  have bz := Below.refl wz.heap.size wz
                  have B0 : Hid (Below wz.heap.size wz wz.drew) := Lib.hid bz.drew
                  have B1 : Hid (Below wz.heap.size wz (wz.alloc (.cells #[] 32)).drew) := Lib.hid (bz.alloc (Nat.le_refl _) _).drew
                  have B2 : Hid (Below wz.heap.size wz ((wz.alloc (.cells #[] 32)).alloc (.cells #[.int .i64 x0, .int .i64 x1] 32)).drew) := Lib.hid ((bz.alloc (Nat.le_refl _) _).alloc (by simp) _).drew
                  have B3 : Hid (Below wz.heap.size wz ((wz.alloc (.cells #[.int .i64 x0, .int .i64 x1] 32)).alloc (.cells #[] 32)).drew) := Lib.hid ((bz.alloc (Nat.le_refl _) _).alloc (by simp) _).drew
                  have B4 : Hid (Below wz.heap.size wz (wz.alloc (.cells #[.int .i64 x0, .int .i64 x1] 32)).drew) := Lib.hid (bz.alloc (Nat.le_refl _) _).drew
                  have A1 : Hid (ownE pairE (wz.alloc (.cells #[] 32)).drew wz.heap.size (.slice (some ⟨wz.heap.size, 0, none⟩) 0 0) []) := Lib.hid (own0P wz).drew
                  have A2 : Hid (ownE pairE ((wz.alloc (.cells #[] 32)).alloc (.cells #[.int .i64 x0, .int .i64 x1] 32)).drew wz.heap.size (.slice (some ⟨wz.heap.size, 0, none⟩) 0 0) []) := Lib.hid ((own0P wz).alloc _).drew
                  have A3 : Hid (ownE pairE ((wz.alloc (.cells #[.int .i64 x0, .int .i64 x1] 32)).alloc (.cells #[] 32)).drew wz.heap.size (.slice (some ⟨wz.heap.size + 1, 0, none⟩) 0 0) []) := Lib.hid (by
                    have := ((own0P (wz.alloc (.cells #[.int .i64 x0, .int .i64 x1] 32))).mono (b' := wz.heap.size) (by simp)).drew
                    rwa [World.size_alloc] at this)
                  have I2 : Hid (eltsAt pairE ((wz.alloc (.cells #[] 32)).alloc (.cells #[.int .i64 x0, .int .i64 x1] 32)).drew (.slice (some ⟨wz.heap.size + 1, 0, none⟩) 1 1) [(x0, x1)]) := Lib.hid (by
                    have := (one_elt pairE (wz.alloc (.cells #[] 32)) (x0, x1)).drew 1
                    rwa [World.size_alloc] at this)
                  have I3 : Hid (eltsAt pairE ((wz.alloc (.cells #[.int .i64 x0, .int .i64 x1] 32)).alloc (.cells #[] 32)).drew (.slice (some ⟨wz.heap.size, 0, none⟩) 1 1) [(x0, x1)]) := Lib.hid (((one_elt pairE wz (x0, x1)).below ((Below.refl _ _).alloc (Nat.le_refl _) (.cells #[] 32)) (Nat.le_refl _)).drew 1)
                  have S1 : Hid (wz.heap.size ≤ (wz.alloc (.cells #[] 32)).drew.heap.size) := Lib.hid B1.out.size
                  have S2 : Hid (wz.heap.size ≤ ((wz.alloc (.cells #[] 32)).alloc (.cells #[.int .i64 x0, .int .i64 x1] 32)).drew.heap.size) := Lib.hid B2.out.size
                  have S3 : Hid (wz.heap.size ≤ ((wz.alloc (.cells #[.int .i64 x0, .int .i64 x1] 32)).alloc (.cells #[] 32)).drew.heap.size) := Lib.hid B3.out.size
                  clear bz
                  go_wp2_with fail
                  go_region_held3 (fun w' => w'.cell? ⟨bp, 0, none⟩ = some (.int .i64 x0) ∧ w'.cell? ⟨bp, 1, none⟩ = some (.int .i64 x1)) (first | exact HBX.out _ B0.out | exact HBX.out _ B1.out | exact HBX.out _ B2.out | exact HBX.out _ B3.out | exact HBX.out _ B4.out | exact HBX.out _ HW4.out | exact HBX.out _ HW3.out | exact HBX.out _ HWQ.out | exact HBX.out _ HW2.out | exact HBX.out _ HW1.out) (first
                    | (refine step_append_elts pairE rfl (.tmp 62) (.tmp 65) rfl wz.heap.size (.slice (some ⟨wz.heap.size + 1, 0, none⟩) 0 0) vh [] T1 rfl rfl (by with_reducible exact A3.out) (HEH.out _ B3.out) HNH.out (by have := HT1l.out; simp only [List.length_nil]; omega) S3.out ?_
                       intro r2 w2 ho2 hg2 _
                       have HO2 : Hid (ownE pairE w2 wz.heap.size r2 T1) := Lib.hid ho2
                       have HW2 : Hid (Below wz.heap.size wz w2) := Lib.hid (below_ownE B3.out hg2 A3.out)
                       have HIQ : Hid (eltsAt pairE w2 (.slice (some ⟨wz.heap.size, 0, none⟩) 1 1) [(x0, x1)]) := Lib.hid (I3.out.kept hg2.size fun a n c e => by cases e; exact hg2.block _ (by simp; omega) (by simp [Value.ownBlock]))
                       have HWQ := Lib.hid HW2.out
                       clear ho2 hg2)
                    | (refine step_append_elts pairE rfl (.tmp 62) (.tmp 65) rfl wz.heap.size (.slice (some ⟨wz.heap.size, 0, none⟩) 0 0) vh [] T1 rfl rfl (by with_reducible exact A2.out) (HEH.out _ B2.out) HNH.out (by have := HT1l.out; simp only [List.length_nil]; omega) S2.out ?_
                       intro r2 w2 ho2 hg2 _
                       have HO2 : Hid (ownE pairE w2 wz.heap.size r2 T1) := Lib.hid ho2
                       have HW2 : Hid (Below wz.heap.size wz w2) := Lib.hid (below_ownE B2.out hg2 A2.out)
                       have HIQ : Hid (eltsAt pairE w2 (.slice (some ⟨wz.heap.size + 1, 0, none⟩) 1 1) [(x0, x1)]) := Lib.hid (I2.out.kept hg2.size fun a n c e => by cases e; exact hg2.block _ (by simp) (by simp [Value.ownBlock]))
                       have HWQ := Lib.hid HW2.out
                       clear ho2 hg2)
                    | (refine step_append_elts pairE rfl (.tmp 62) (.tmp 65) rfl wz.heap.size (.slice (some ⟨wz.heap.size, 0, none⟩) 0 0) vh [] T1 rfl rfl (by with_reducible exact A1.out) (HEH.out _ B1.out) HNH.out (by have := HT1l.out; simp only [List.length_nil]; omega) S1.out ?_
                       intro r2 w2 ho2 hg2 _
                       have HO1 : Hid (ownE pairE w2 wz.heap.size r2 T1) := Lib.hid ho2
                       have HW1 : Hid (Below wz.heap.size wz w2) := Lib.hid (below_ownE B1.out hg2 A1.out)
                       have HO2 : Hid (ownE pairE (w2.alloc (.cells #[.int .i64 x0, .int .i64 x1] 32)) wz.heap.size r2 T1) := Lib.hid (HO1.out.alloc _)
                       have HIQ : Hid (eltsAt pairE (w2.alloc (.cells #[.int .i64 x0, .int .i64 x1] 32)) (.slice (some ⟨w2.heap.size, 0, none⟩) 1 1) [(x0, x1)]) := Lib.hid (one_elt pairE w2 (x0, x1))
                       have HWQ : Hid (Below wz.heap.size wz (w2.alloc (.cells #[.int .i64 x0, .int .i64 x1] 32))) := Lib.hid (HW1.out.alloc HW1.out.size _)
                       clear ho2 hg2)
                    | (refine step_append_elts pairE rfl (.tmp 66) (.tmp 68) rfl wz.heap.size r2 _ T1 [(x0, x1)] rfl rfl HO2.out HIQ.out (someNone _ _ _) (by have := HT1l.out; simp only [List.length_singleton]; omega) HWQ.out.size ?_
                       intro r3 w3 ho3 hg3 _
                       have HO3 : Hid (ownE pairE w3 wz.heap.size r3 (T1 ++ [(x0, x1)])) := Lib.hid ho3
                       have HW3 : Hid (Below wz.heap.size wz w3) := Lib.hid (below_ownE HWQ.out hg3 HO2.out)
                       clear ho3 hg3)
                    | (refine step_append_elts pairE rfl (.tmp 69) (.tmp 72) rfl wz.heap.size r3 vt (T1 ++ [(x0, x1)]) T2 rfl rfl HO3.out (HET.out _ HW3.out) HNT.out (by have := HT1l.out; have := HT2l.out; simp only [List.length_append, List.length_singleton]; omega) HW3.out.size ?_
                       intro r4 w4 ho4 hg4 _
                       have HO4 : Hid (ownE pairE w4 wz.heap.size r4 (T1 ++ [(x0, x1)] ++ T2)) := Lib.hid ho4
                       have HW4 : Hid (Below wz.heap.size wz w4) := Lib.hid (below_ownE HW3.out hg4 HO3.out)
                       clear ho4 hg4))
                  all_goals clear A1 A2 A3 I2 I3 S1 S2 S3 B0 B1 B2 B3 B4 HIQ HWQ hvh hvt
                  all_goals go_wp2
                  all_goals go_roundw
                  all_goals try (case measure => simp [intOf]; omega)
                  all_goals exact in_step h2 (HO4.out.mono HZS.out) (by have e := HT.out; rw [e.1, e.2, HX0.out, HX1.out]; exact HPUT.out) (HZB.out.trans (HW4.out.mono HZB.out.size))
            · obtain rfl : t = Q.length := by omega
              have htB : decide ((Q.length : Int) < (Q.length : Int)) = false := decide_eq_false (by omega)
              have HPUT := Lib.hid (rise_put (t := Q.length) (p := (x0, x1)) HRS.out ht HLO.out fun hx => (by omega))
              go_wp2_with fail
              go_quiet (fail)
              have HGY : Hid (Below wb.heap.size wb (wr.drewN nq)) := Lib.hid (below_drewN' HGB.out nq)
              generalize wr.drewN nq = wy at *
              go_wp2_with fail
              go_quiet (fail)
              have HBX : Hid (∀ W, Below (wy.drewN nq).heap.size (wy.drewN nq) W → W.cell? ⟨bp, 0, none⟩ = some (.int .i64 x0) ∧ W.cell? ⟨bp, 1, none⟩ = some (.int .i64 x1)) := Lib.hid fun W hW => HBX0.out W ((below_drewN' HGY.out nq).trans (hW.mono (below_drewN' HGY.out nq).size))
              have HQZ : Hid (eltsAt pairE (wy.drewN nq) (.slice aq Q.length cq) Q) := Lib.hid (HQB.out.below (below_drewN' HGY.out nq) (Nat.le_refl _))
              have HZB : Hid (Below w.heap.size w (wy.drewN nq)) := Lib.hid (HWB.out.trans ((below_drewN' HGY.out nq).mono HWB.out.size))
              have HZS : Hid (w.heap.size ≤ (wy.drewN nq).heap.size) := Lib.hid HZB.out.size
              generalize wy.drewN nq = wz at *
              obtain ⟨vh, hvh, nh, eh⟩ := pairs_head aq Q.length cq Q.length (Q.length : Int) (by omega) (by omega) HNN.out
              obtain ⟨vt, hvt, nt, et⟩ := pairs_tail aq Q.length cq Q.length (Q.length : Int) (by omega) (by omega) hcq HNN.out
              obtain ⟨T1, hT1⟩ : ∃ T1, T1 = Q.take Q.length := ⟨_, rfl⟩
              obtain ⟨T2, hT2⟩ : ∃ T2, T2 = Q.drop Q.length := ⟨_, rfl⟩
              have HT1l : Hid (T1.length ≤ 1000) := Lib.hid (by rw [hT1, List.length_take]; omega)
              have HT2l : Hid (T2.length ≤ 1000) := Lib.hid (by rw [hT2, List.length_drop]; omega)
              have HEH : Hid (∀ W, Below wz.heap.size wz W → eltsAt pairE W vh T1) := Lib.hid (fun W hW => by rw [hT1]; exact eh W _ (HQZ.out.below hW (Nat.le_refl _)) (by omega))
              have HET : Hid (∀ W, Below wz.heap.size wz W → eltsAt pairE W vt T2) := Lib.hid (fun W hW => by rw [hT2]; exact et W _ (HQZ.out.below hW (Nat.le_refl _)))
              have HNH := Lib.hid nh
              have HNT := Lib.hid nt
              have HT := Lib.hid (And.intro hT1 hT2)
              clear eh et nh nt hT1 hT2
              have bz := Below.refl wz.heap.size wz
              have B0 : Hid (Below wz.heap.size wz wz.drew) := Lib.hid bz.drew
              have B1 : Hid (Below wz.heap.size wz (wz.alloc (.cells #[] 32)).drew) := Lib.hid (bz.alloc (Nat.le_refl _) _).drew
              have B2 : Hid (Below wz.heap.size wz ((wz.alloc (.cells #[] 32)).alloc (.cells #[.int .i64 x0, .int .i64 x1] 32)).drew) := Lib.hid ((bz.alloc (Nat.le_refl _) _).alloc (by simp) _).drew
              have B3 : Hid (Below wz.heap.size wz ((wz.alloc (.cells #[.int .i64 x0, .int .i64 x1] 32)).alloc (.cells #[] 32)).drew) := Lib.hid ((bz.alloc (Nat.le_refl _) _).alloc (by simp) _).drew
              have B4 : Hid (Below wz.heap.size wz (wz.alloc (.cells #[.int .i64 x0, .int .i64 x1] 32)).drew) := Lib.hid (bz.alloc (Nat.le_refl _) _).drew
              have A1 : Hid (ownE pairE (wz.alloc (.cells #[] 32)).drew wz.heap.size (.slice (some ⟨wz.heap.size, 0, none⟩) 0 0) []) := Lib.hid (own0P wz).drew
              have A2 : Hid (ownE pairE ((wz.alloc (.cells #[] 32)).alloc (.cells #[.int .i64 x0, .int .i64 x1] 32)).drew wz.heap.size (.slice (some ⟨wz.heap.size, 0, none⟩) 0 0) []) := Lib.hid ((own0P wz).alloc _).drew
              have A3 : Hid (ownE pairE ((wz.alloc (.cells #[.int .i64 x0, .int .i64 x1] 32)).alloc (.cells #[] 32)).drew wz.heap.size (.slice (some ⟨wz.heap.size + 1, 0, none⟩) 0 0) []) := Lib.hid (by
                have := ((own0P (wz.alloc (.cells #[.int .i64 x0, .int .i64 x1] 32))).mono (b' := wz.heap.size) (by simp)).drew
                rwa [World.size_alloc] at this)
              have I2 : Hid (eltsAt pairE ((wz.alloc (.cells #[] 32)).alloc (.cells #[.int .i64 x0, .int .i64 x1] 32)).drew (.slice (some ⟨wz.heap.size + 1, 0, none⟩) 1 1) [(x0, x1)]) := Lib.hid (by
                have := (one_elt pairE (wz.alloc (.cells #[] 32)) (x0, x1)).drew 1
                rwa [World.size_alloc] at this)
              have I3 : Hid (eltsAt pairE ((wz.alloc (.cells #[.int .i64 x0, .int .i64 x1] 32)).alloc (.cells #[] 32)).drew (.slice (some ⟨wz.heap.size, 0, none⟩) 1 1) [(x0, x1)]) := Lib.hid (((one_elt pairE wz (x0, x1)).below ((Below.refl _ _).alloc (Nat.le_refl _) (.cells #[] 32)) (Nat.le_refl _)).drew 1)
              have S1 : Hid (wz.heap.size ≤ (wz.alloc (.cells #[] 32)).drew.heap.size) := Lib.hid B1.out.size
              have S2 : Hid (wz.heap.size ≤ ((wz.alloc (.cells #[] 32)).alloc (.cells #[.int .i64 x0, .int .i64 x1] 32)).drew.heap.size) := Lib.hid B2.out.size
              have S3 : Hid (wz.heap.size ≤ ((wz.alloc (.cells #[.int .i64 x0, .int .i64 x1] 32)).alloc (.cells #[] 32)).drew.heap.size) := Lib.hid B3.out.size
              clear bz
              go_wp2_with fail
              go_region_held3 (fun w' => w'.cell? ⟨bp, 0, none⟩ = some (.int .i64 x0) ∧ w'.cell? ⟨bp, 1, none⟩ = some (.int .i64 x1)) (first | exact HBX.out _ B0.out | exact HBX.out _ B1.out | exact HBX.out _ B2.out | exact HBX.out _ B3.out | exact HBX.out _ B4.out | exact HBX.out _ HW4.out | exact HBX.out _ HW3.out | exact HBX.out _ HWQ.out | exact HBX.out _ HW2.out | exact HBX.out _ HW1.out) (first
                | (refine step_append_elts pairE rfl (.tmp 62) (.tmp 65) rfl wz.heap.size (.slice (some ⟨wz.heap.size + 1, 0, none⟩) 0 0) vh [] T1 rfl rfl (by with_reducible exact A3.out) (HEH.out _ B3.out) HNH.out (by have := HT1l.out; simp only [List.length_nil]; omega) S3.out ?_
                   intro r2 w2 ho2 hg2 _
                   have HO2 : Hid (ownE pairE w2 wz.heap.size r2 T1) := Lib.hid ho2
                   have HW2 : Hid (Below wz.heap.size wz w2) := Lib.hid (below_ownE B3.out hg2 A3.out)
                   have HIQ : Hid (eltsAt pairE w2 (.slice (some ⟨wz.heap.size, 0, none⟩) 1 1) [(x0, x1)]) := Lib.hid (I3.out.kept hg2.size fun a n c e => by cases e; exact hg2.block _ (by simp; omega) (by simp [Value.ownBlock]))
                   have HWQ := Lib.hid HW2.out
                   clear ho2 hg2)
                | (refine step_append_elts pairE rfl (.tmp 62) (.tmp 65) rfl wz.heap.size (.slice (some ⟨wz.heap.size, 0, none⟩) 0 0) vh [] T1 rfl rfl (by with_reducible exact A2.out) (HEH.out _ B2.out) HNH.out (by have := HT1l.out; simp only [List.length_nil]; omega) S2.out ?_
                   intro r2 w2 ho2 hg2 _
                   have HO2 : Hid (ownE pairE w2 wz.heap.size r2 T1) := Lib.hid ho2
                   have HW2 : Hid (Below wz.heap.size wz w2) := Lib.hid (below_ownE B2.out hg2 A2.out)
                   have HIQ : Hid (eltsAt pairE w2 (.slice (some ⟨wz.heap.size + 1, 0, none⟩) 1 1) [(x0, x1)]) := Lib.hid (I2.out.kept hg2.size fun a n c e => by cases e; exact hg2.block _ (by simp) (by simp [Value.ownBlock]))
                   have HWQ := Lib.hid HW2.out
                   clear ho2 hg2)
                | (refine step_append_elts pairE rfl (.tmp 62) (.tmp 65) rfl wz.heap.size (.slice (some ⟨wz.heap.size, 0, none⟩) 0 0) vh [] T1 rfl rfl (by with_reducible exact A1.out) (HEH.out _ B1.out) HNH.out (by have := HT1l.out; simp only [List.length_nil]; omega) S1.out ?_
                   intro r2 w2 ho2 hg2 _
                   have HO1 : Hid (ownE pairE w2 wz.heap.size r2 T1) := Lib.hid ho2
                   have HW1 : Hid (Below wz.heap.size wz w2) := Lib.hid (below_ownE B1.out hg2 A1.out)
                   have HO2 : Hid (ownE pairE (w2.alloc (.cells #[.int .i64 x0, .int .i64 x1] 32)) wz.heap.size r2 T1) := Lib.hid (HO1.out.alloc _)
                   have HIQ : Hid (eltsAt pairE (w2.alloc (.cells #[.int .i64 x0, .int .i64 x1] 32)) (.slice (some ⟨w2.heap.size, 0, none⟩) 1 1) [(x0, x1)]) := Lib.hid (one_elt pairE w2 (x0, x1))
                   have HWQ : Hid (Below wz.heap.size wz (w2.alloc (.cells #[.int .i64 x0, .int .i64 x1] 32))) := Lib.hid (HW1.out.alloc HW1.out.size _)
                   clear ho2 hg2)
                | (refine step_append_elts pairE rfl (.tmp 66) (.tmp 68) rfl wz.heap.size r2 _ T1 [(x0, x1)] rfl rfl HO2.out HIQ.out (someNone _ _ _) (by have := HT1l.out; simp only [List.length_singleton]; omega) HWQ.out.size ?_
                   intro r3 w3 ho3 hg3 _
                   have HO3 : Hid (ownE pairE w3 wz.heap.size r3 (T1 ++ [(x0, x1)])) := Lib.hid ho3
                   have HW3 : Hid (Below wz.heap.size wz w3) := Lib.hid (below_ownE HWQ.out hg3 HO2.out)
                   clear ho3 hg3)
                | (refine step_append_elts pairE rfl (.tmp 69) (.tmp 72) rfl wz.heap.size r3 vt (T1 ++ [(x0, x1)]) T2 rfl rfl HO3.out (HET.out _ HW3.out) HNT.out (by have := HT1l.out; have := HT2l.out; simp only [List.length_append, List.length_singleton]; omega) HW3.out.size ?_
                   intro r4 w4 ho4 hg4 _
                   have HO4 : Hid (ownE pairE w4 wz.heap.size r4 (T1 ++ [(x0, x1)] ++ T2)) := Lib.hid ho4
                   have HW4 : Hid (Below wz.heap.size wz w4) := Lib.hid (below_ownE HW3.out hg4 HO3.out)
                   clear ho4 hg4))
              all_goals clear A1 A2 A3 I2 I3 S1 S2 S3 B0 B1 B2 B3 B4 HIQ HWQ hvh hvt
              all_goals go_wp2
              all_goals go_roundw
              all_goals try (case measure => simp [intOf]; omega)
              all_goals exact in_step h2 (HO4.out.mono HZS.out) (by have e := HT.out; rw [e.1, e.2, HX0.out, HX1.out]; exact HPUT.out) (HZB.out.trans (HW4.out.mono HZB.out.size))
        · have HT : Hid ((adj A).take m = adj A) := Lib.hid (List.take_of_length_le (by have := adj_len A; omega))
          go_wp2
          go_roundw
          case measure => simp [intOf]
          case rel => exact ⟨1, 1, Q, by simp, rfl, by omega, HO.out, by have := HRS.out; rw [HT.out] at this; simpa [sOf] using this, HB.out⟩
    | 1, _ =>
      obtain rfl : kz = 1 := by omega
      clear hkz
      go_wp2
      go_loopw [5, 8] (fun o i wr => InRel w (adj A) B o i wr) (fun _ i _ => B.length - (intOf i).toNat)
      case atStart => exact ⟨0, Q, rfl, Nat.zero_le _, HO.out, by simpa [sOf] using HRS.out, HB.out⟩
      case round =>
        clear HO HRS HB
        obtain ⟨m, Q, rfl, hm, ho, hrs, hbel⟩ := hrel
        have HO := Lib.hid ho; have HRS := Lib.hid hrs; have HB := Lib.hid hbel
        have hQl : Q.length ≤ 1000 := by have h1 := hrs.len; have h3 := adj_len A; have h4 := adj_len B; simp at h1; omega
        obtain ⟨aq, cq, rfl, hcq⟩ := ho.form
        have HNN := Lib.hid ho.nilNone
        clear ho hrs hbel
        obtain ⟨wo, hwo⟩ : ∃ wo, wo = wr := ⟨_, rfl⟩
        subst hwo
        have hwm : IntKind.i64.wrap ((m : Int) + 1) = (m : Int) + 1 := IntWalk.i64_in _ (by omega)
        by_cases h2 : m + 1 < B.length
        · obtain ⟨ad, rfl, c0⟩ := int_at (HVB.out.below HB.out (Nat.le_refl _)) (k := m) (by omega)
          obtain ⟨ad', e', c1⟩ := int_at (HVB.out.below HB.out (Nat.le_refl _)) h2
          cases e'
          obtain ⟨x0, hx0⟩ : ∃ x0, B[m] = x0 := ⟨_, rfl⟩
          obtain ⟨x1, hx1⟩ : ∃ x1, B[m + 1] = x1 := ⟨_, rfl⟩
          rw [hx0] at c0
          rw [hx1, add_succ] at c1
          have baz := (Below.refl wo.heap.size wo).alloc (Nat.le_refl _) (.cells #[.int .i64 0, .int .i64 0] 32)
          have hadb := block_of_cell c0
          have e0 : (wo.alloc (.cells #[.int .i64 0, .int .i64 0] 32)).cell? (ad.add m) = some (.int .i64 x0) := (baz.cell (by rw [add_block]; exact block_of_cell c0)).trans c0
          have e1 : (wo.alloc (.cells #[.int .i64 0, .int .i64 0] 32)).cell? ⟨ad.block, ad.off + (m + 1), none⟩ = some (.int .i64 x1) := (baz.cell (show (⟨ad.block, ad.off + (m + 1), none⟩ : Addr).block < wo.heap.size from hadb)).trans c1
          have HX0 := Lib.hid hx0; have HX1 := Lib.hid hx1
          clear baz hadb
          clear hx0 hx1
          have i1 : (m : Int) < (B.length : Int) := by omega
          have i2 : (0 : Int) ≤ (m : Int) + 1 := by omega
          have i3 : (m : Int) + 1 < (B.length : Int) := by omega
          have i4 : ((m : Int) + 1).toNat = m + 1 := by omega
          obtain ⟨wb, hwb⟩ : ∃ wb, wb = (wo.alloc (.cells #[.int .i64 x0, .int .i64 x1] 32)).drew := ⟨_, rfl⟩
          have HBB : Hid (Below wo.heap.size wo wb) := Lib.hid (by rw [hwb]; exact ((Below.refl _ wo).alloc (Nat.le_refl _) _).drew)
          have bx0 : wb.cell? ⟨wo.heap.size, 0, none⟩ = some (.int .i64 x0) := by rw [hwb]; show (wo.alloc _).cell? _ = _; simp
          have bx1 : wb.cell? ⟨wo.heap.size, 1, none⟩ = some (.int .i64 x1) := by rw [hwb]; show (wo.alloc _).cell? _ = _; simp
          have hbl : wo.heap.size < wb.heap.size := by rw [hwb]; show _ < (wo.alloc _).heap.size; simp
          have HBX0 : Hid (∀ W, Below wb.heap.size wb W → W.cell? ⟨wo.heap.size, 0, none⟩ = some (.int .i64 x0) ∧ W.cell? ⟨wo.heap.size, 1, none⟩ = some (.int .i64 x1)) := Lib.hid fun W hW => ⟨(hW.cell hbl).trans bx0, (hW.cell hbl).trans bx1⟩
          have HWB : Hid (Below w.heap.size w wb) := Lib.hid (HB.out.trans (HBB.out.mono HB.out.size))
          have HQB : Hid (eltsAt pairE wb (.slice aq Q.length cq) Q) := Lib.hid (HO.out.reads.below HBB.out (Nat.le_refl _))
          have HOB : Hid (ownE pairE wb w.heap.size (.slice aq Q.length cq) Q) := Lib.hid (HO.out.below HBB.out)
          have hwb' := hwb.symm
          clear hwb bx0 bx1 hbl
          go_wp2_with fail
          go_region
          all_goals (go_wp2_with fail)
          clear hwb' c0 c1 e0 e1
          obtain ⟨bp, hbp⟩ : ∃ bp, bp = wo.heap.size := ⟨_, rfl⟩
          rw [← hbp]
          rw [← hbp] at HBX0
          clear hbp
          go_loopw [10] (fun y wr => AtP wb Q (x0, x1) y wr) (fun y _ => Q.length - (intOf y).toNat)
          case atStart => exact ⟨0, rfl, Nat.zero_le _, fun x hx h => by omega, 0, #[], by rw [grow_empty]; rfl⟩
          case round =>
            obtain ⟨t, rfl, ht, hlo, n0, os0, hwr⟩ := hrel
            have HLO := Lib.hid hlo
            have HGR := Lib.hid hwr
            have HGB : Hid (Below wb.heap.size wb wr) := Lib.hid (by rw [hwr]; exact grown_below _ _ _)
            clear hlo hwr
            by_cases hgt : t < Q.length
            · obtain ⟨aqd, rfl⟩ := pair_some HQB.out hgt
              have key : ∀ n os, Below wb.heap.size wb (grow (wr.drewN n) os) := fun n os => HGB.out.trans ((grown_below wr n os).mono HGB.out.size)
              obtain ⟨y0, hy0⟩ : ∃ y0, Q[t].1 = y0 := ⟨_, rfl⟩
              obtain ⟨y1, hy1⟩ : ∃ y1, Q[t].2 = y1 := ⟨_, rfl⟩
              have HY : Hid (Q[t] = (y0, y1)) := Lib.hid (Prod.ext hy0 hy1)
              have q0 : ∀ n os, (grow (wr.drewN n) os).cell? (aqd.add (t * 2)) = some (.int .i64 y0) := fun n os => by have := (pairs_at HQB.out (key n os) hgt).1; rwa [hy0] at this
              have q1 : ∀ n os, (grow (wr.drewN n) os).cell? ⟨(aqd.add (t * 2)).block, (aqd.add (t * 2)).off + 1, none⟩ = some (.int .i64 y1) := fun n os => by have := (pairs_at HQB.out (key n os) hgt).2; rwa [hy1] at this
              have z0 : ∀ n os, (grow (wr.drewN n) os).cell? ⟨bp, 0, none⟩ = some (.int .i64 x0) := fun n os => (HBX0.out _ (key n os)).1
              have z1 : ∀ n os, (grow (wr.drewN n) os).cell? ⟨bp, 1, none⟩ = some (.int .i64 x1) := fun n os => (HBX0.out _ (key n os)).2
              have cG : ∀ n os, Calls Try.prog 27 #[.agg #[.int .i64 y0, .int .i64 y1], .agg #[.int .i64 x0, .int .i64 x1]] (grow (wr.drewN n) os) fun e w'' => e = .returned (.bool (decide (pb (y0, y1) (x0, x1)))) ∧ ∃ p : GrownBy, w'' = grow (wr.drewN p.n) p.os := fun n os => Calls.grown_of (before_any y0 y1 x0 x1 _)
              have htI : (t : Int) < (Q.length : Int) := by omega
              have htB : decide ((t : Int) < (Q.length : Int)) = true := decide_eq_true htI
              clear key hy0 hy1
              by_cases tb : pb (y0, y1) (x0, x1)
              · have etb : decide (pb (y0, y1) (x0, x1)) = true := decide_eq_true tb
                rw [etb] at cG
                go_wp2_with fail
                go_quiet_grown (first | (go_at_call 27; refine cG _ _))
                have HGZ : Hid (∃ n os, grow (wr.drewN nq) osq = grow (wb.drewN n) os) := Lib.hid (by rw [HGR.out]; exact grown_trans _ _ _ _ _)
                clear q0 q1 z0 z1 cG
                generalize grow (wr.drewN nq) osq = wz at *
                go_wp2
                go_roundw
                case rel =>
                  refine ⟨t + 1, by simp, by omega, fun x hx h => ?_, HGZ.out⟩
                  by_cases ex : x = t
                  · subst ex; rw [HY.out]; exact tb
                  · exact HLO.out x hx (by omega)
                case measure => simp [intOf]; omega
              · have etb : decide (pb (y0, y1) (x0, x1)) = false := decide_eq_false tb
                rw [etb] at cG
                go_wp2_with fail
                go_quiet_grown (first | (go_at_call 27; refine cG _ _))
                have HGZ : Hid (Below wb.heap.size wb (grow (wr.drewN nq) osq)) := Lib.hid (HGB.out.trans ((grown_below wr _ _).mono HGB.out.size))
                clear q0 q1 z0 z1 cG
                generalize grow (wr.drewN nq) osq = wy at *
                obtain ⟨q0, q1⟩ := pairs_at HQB.out HGZ.out hgt
                obtain ⟨z0, z1⟩ := HBX0.out _ HGZ.out
                rw [HY.out] at q0 q1
                simp only at q0 q1
                by_cases eqp : (y0, y1) = (x0, x1)
                · obtain ⟨rfl, rfl⟩ := Prod.mk.inj eqp
                  have HSK := Lib.hid (rise_skip HRS.out (p := (y0, y1)) (by rw [← HY.out]; exact List.getElem_mem _))
                  clear eqp
                  go_wp2_with fail
                  go_quiet (fail)
                  have HZB : Hid (Below w.heap.size w (wy.drewN nq)) := Lib.hid (HWB.out.trans ((below_drewN' HGZ.out nq).mono HWB.out.size))
                  have HOZ := Lib.hid ((HOB.out.below HGZ.out).drewN nq)
                  generalize wy.drewN nq = wz at *
                  go_wp2
                  go_roundw
                  case measure => simp [intOf]; omega
                  case rel => exact in_step h2 HOZ.out (by rw [HX0.out, HX1.out]; exact HSK.out) HZB.out
                · have HPUT := Lib.hid (rise_put (t := t) (p := (x0, x1)) HRS.out ht HLO.out fun hx => (by rw [HY.out]; exact ((pb_total eqp).resolve_left tb)))
                  have hne1 := fun w => pair_eql_no eqp w
                  have hne2 : (y0 == x0 && y1 == x1) = false := by
                    cases hq : (y0 == x0 && y1 == x1) with
                    | false => rfl
                    | true => simp at hq; exact absurd (by rw [hq.1, hq.2]) eqp
                  have hne3 : y0 = x0 → ¬ y1 = x1 := fun e1 e2 => eqp (by rw [e1, e2])
                  go_wp2_with fail
                  go_quiet (fail)
                  have HBX : Hid (∀ W, Below (wy.drewN nq).heap.size (wy.drewN nq) W → W.cell? ⟨bp, 0, none⟩ = some (.int .i64 x0) ∧ W.cell? ⟨bp, 1, none⟩ = some (.int .i64 x1)) := Lib.hid fun W hW => HBX0.out W ((below_drewN' HGZ.out nq).trans (hW.mono (below_drewN' HGZ.out nq).size))
                  have HQZ : Hid (eltsAt pairE (wy.drewN nq) (.slice (some aqd) Q.length cq) Q) := Lib.hid (HQB.out.below (below_drewN' HGZ.out nq) (Nat.le_refl _))
                  have HZB : Hid (Below w.heap.size w (wy.drewN nq)) := Lib.hid (HWB.out.trans ((below_drewN' HGZ.out nq).mono HWB.out.size))
                  have HZS : Hid (w.heap.size ≤ (wy.drewN nq).heap.size) := Lib.hid HZB.out.size
                  clear q0 q1 z0 z1
                  generalize wy.drewN nq = wz at *
                  obtain ⟨vh, hvh, nh, eh⟩ := pairs_head (some aqd) Q.length cq t (t : Int) (by omega) (by omega) HNN.out
                  obtain ⟨vt, hvt, nt, et⟩ := pairs_tail (some aqd) Q.length cq t (t : Int) (by omega) (by omega) hcq HNN.out
                  obtain ⟨T1, hT1⟩ : ∃ T1, T1 = Q.take t := ⟨_, rfl⟩
                  obtain ⟨T2, hT2⟩ : ∃ T2, T2 = Q.drop t := ⟨_, rfl⟩
                  have HT1l : Hid (T1.length ≤ 1000) := Lib.hid (by rw [hT1, List.length_take]; omega)
                  have HT2l : Hid (T2.length ≤ 1000) := Lib.hid (by rw [hT2, List.length_drop]; omega)
                  have HEH : Hid (∀ W, Below wz.heap.size wz W → eltsAt pairE W vh T1) := Lib.hid (fun W hW => by rw [hT1]; exact eh W _ (HQZ.out.below hW (Nat.le_refl _)) (by omega))
                  have HET : Hid (∀ W, Below wz.heap.size wz W → eltsAt pairE W vt T2) := Lib.hid (fun W hW => by rw [hT2]; exact et W _ (HQZ.out.below hW (Nat.le_refl _)))
                  have HNH := Lib.hid nh
                  have HNT := Lib.hid nt
                  have HT := Lib.hid (And.intro hT1 hT2)
                  clear eh et nh nt hT1 hT2
                  have bz := Below.refl wz.heap.size wz
                  have B0 : Hid (Below wz.heap.size wz wz.drew) := Lib.hid bz.drew
                  have B1 : Hid (Below wz.heap.size wz (wz.alloc (.cells #[] 32)).drew) := Lib.hid (bz.alloc (Nat.le_refl _) _).drew
                  have B2 : Hid (Below wz.heap.size wz ((wz.alloc (.cells #[] 32)).alloc (.cells #[.int .i64 x0, .int .i64 x1] 32)).drew) := Lib.hid ((bz.alloc (Nat.le_refl _) _).alloc (by simp) _).drew
                  have B3 : Hid (Below wz.heap.size wz ((wz.alloc (.cells #[.int .i64 x0, .int .i64 x1] 32)).alloc (.cells #[] 32)).drew) := Lib.hid ((bz.alloc (Nat.le_refl _) _).alloc (by simp) _).drew
                  have B4 : Hid (Below wz.heap.size wz (wz.alloc (.cells #[.int .i64 x0, .int .i64 x1] 32)).drew) := Lib.hid (bz.alloc (Nat.le_refl _) _).drew
                  have A1 : Hid (ownE pairE (wz.alloc (.cells #[] 32)).drew wz.heap.size (.slice (some ⟨wz.heap.size, 0, none⟩) 0 0) []) := Lib.hid (own0P wz).drew
                  have A2 : Hid (ownE pairE ((wz.alloc (.cells #[] 32)).alloc (.cells #[.int .i64 x0, .int .i64 x1] 32)).drew wz.heap.size (.slice (some ⟨wz.heap.size, 0, none⟩) 0 0) []) := Lib.hid ((own0P wz).alloc _).drew
                  have A3 : Hid (ownE pairE ((wz.alloc (.cells #[.int .i64 x0, .int .i64 x1] 32)).alloc (.cells #[] 32)).drew wz.heap.size (.slice (some ⟨wz.heap.size + 1, 0, none⟩) 0 0) []) := Lib.hid (by
                    have := ((own0P (wz.alloc (.cells #[.int .i64 x0, .int .i64 x1] 32))).mono (b' := wz.heap.size) (by simp)).drew
                    rwa [World.size_alloc] at this)
                  have I2 : Hid (eltsAt pairE ((wz.alloc (.cells #[] 32)).alloc (.cells #[.int .i64 x0, .int .i64 x1] 32)).drew (.slice (some ⟨wz.heap.size + 1, 0, none⟩) 1 1) [(x0, x1)]) := Lib.hid (by
                    have := (one_elt pairE (wz.alloc (.cells #[] 32)) (x0, x1)).drew 1
                    rwa [World.size_alloc] at this)
                  have I3 : Hid (eltsAt pairE ((wz.alloc (.cells #[.int .i64 x0, .int .i64 x1] 32)).alloc (.cells #[] 32)).drew (.slice (some ⟨wz.heap.size, 0, none⟩) 1 1) [(x0, x1)]) := Lib.hid (((one_elt pairE wz (x0, x1)).below ((Below.refl _ _).alloc (Nat.le_refl _) (.cells #[] 32)) (Nat.le_refl _)).drew 1)
                  have S1 : Hid (wz.heap.size ≤ (wz.alloc (.cells #[] 32)).drew.heap.size) := Lib.hid B1.out.size
                  have S2 : Hid (wz.heap.size ≤ ((wz.alloc (.cells #[] 32)).alloc (.cells #[.int .i64 x0, .int .i64 x1] 32)).drew.heap.size) := Lib.hid B2.out.size
                  have S3 : Hid (wz.heap.size ≤ ((wz.alloc (.cells #[.int .i64 x0, .int .i64 x1] 32)).alloc (.cells #[] 32)).drew.heap.size) := Lib.hid B3.out.size
                  clear bz
                  go_wp2_with fail
                  go_region_held3 (fun w' => w'.cell? ⟨bp, 0, none⟩ = some (.int .i64 x0) ∧ w'.cell? ⟨bp, 1, none⟩ = some (.int .i64 x1)) (first | exact HBX.out _ B0.out | exact HBX.out _ B1.out | exact HBX.out _ B2.out | exact HBX.out _ B3.out | exact HBX.out _ B4.out | exact HBX.out _ HW4.out | exact HBX.out _ HW3.out | exact HBX.out _ HWQ.out | exact HBX.out _ HW2.out | exact HBX.out _ HW1.out) (first
                    | (refine step_append_elts pairE rfl (.tmp 62) (.tmp 65) rfl wz.heap.size (.slice (some ⟨wz.heap.size + 1, 0, none⟩) 0 0) vh [] T1 rfl rfl (by with_reducible exact A3.out) (HEH.out _ B3.out) HNH.out (by have := HT1l.out; simp only [List.length_nil]; omega) S3.out ?_
                       intro r2 w2 ho2 hg2 _
                       have HO2 : Hid (ownE pairE w2 wz.heap.size r2 T1) := Lib.hid ho2
                       have HW2 : Hid (Below wz.heap.size wz w2) := Lib.hid (below_ownE B3.out hg2 A3.out)
                       have HIQ : Hid (eltsAt pairE w2 (.slice (some ⟨wz.heap.size, 0, none⟩) 1 1) [(x0, x1)]) := Lib.hid (I3.out.kept hg2.size fun a n c e => by cases e; exact hg2.block _ (by simp; omega) (by simp [Value.ownBlock]))
                       have HWQ := Lib.hid HW2.out
                       clear ho2 hg2)
                    | (refine step_append_elts pairE rfl (.tmp 62) (.tmp 65) rfl wz.heap.size (.slice (some ⟨wz.heap.size, 0, none⟩) 0 0) vh [] T1 rfl rfl (by with_reducible exact A2.out) (HEH.out _ B2.out) HNH.out (by have := HT1l.out; simp only [List.length_nil]; omega) S2.out ?_
                       intro r2 w2 ho2 hg2 _
                       have HO2 : Hid (ownE pairE w2 wz.heap.size r2 T1) := Lib.hid ho2
                       have HW2 : Hid (Below wz.heap.size wz w2) := Lib.hid (below_ownE B2.out hg2 A2.out)
                       have HIQ : Hid (eltsAt pairE w2 (.slice (some ⟨wz.heap.size + 1, 0, none⟩) 1 1) [(x0, x1)]) := Lib.hid (I2.out.kept hg2.size fun a n c e => by cases e; exact hg2.block _ (by simp) (by simp [Value.ownBlock]))
                       have HWQ := Lib.hid HW2.out
                       clear ho2 hg2)
                    | (refine step_append_elts pairE rfl (.tmp 62) (.tmp 65) rfl wz.heap.size (.slice (some ⟨wz.heap.size, 0, none⟩) 0 0) vh [] T1 rfl rfl (by with_reducible exact A1.out) (HEH.out _ B1.out) HNH.out (by have := HT1l.out; simp only [List.length_nil]; omega) S1.out ?_
                       intro r2 w2 ho2 hg2 _
                       have HO1 : Hid (ownE pairE w2 wz.heap.size r2 T1) := Lib.hid ho2
                       have HW1 : Hid (Below wz.heap.size wz w2) := Lib.hid (below_ownE B1.out hg2 A1.out)
                       have HO2 : Hid (ownE pairE (w2.alloc (.cells #[.int .i64 x0, .int .i64 x1] 32)) wz.heap.size r2 T1) := Lib.hid (HO1.out.alloc _)
                       have HIQ : Hid (eltsAt pairE (w2.alloc (.cells #[.int .i64 x0, .int .i64 x1] 32)) (.slice (some ⟨w2.heap.size, 0, none⟩) 1 1) [(x0, x1)]) := Lib.hid (one_elt pairE w2 (x0, x1))
                       have HWQ : Hid (Below wz.heap.size wz (w2.alloc (.cells #[.int .i64 x0, .int .i64 x1] 32))) := Lib.hid (HW1.out.alloc HW1.out.size _)
                       clear ho2 hg2)
                    | (refine step_append_elts pairE rfl (.tmp 66) (.tmp 68) rfl wz.heap.size r2 _ T1 [(x0, x1)] rfl rfl HO2.out HIQ.out (someNone _ _ _) (by have := HT1l.out; simp only [List.length_singleton]; omega) HWQ.out.size ?_
                       intro r3 w3 ho3 hg3 _
                       have HO3 : Hid (ownE pairE w3 wz.heap.size r3 (T1 ++ [(x0, x1)])) := Lib.hid ho3
                       have HW3 : Hid (Below wz.heap.size wz w3) := Lib.hid (below_ownE HWQ.out hg3 HO2.out)
                       clear ho3 hg3)
                    | (refine step_append_elts pairE rfl (.tmp 69) (.tmp 72) rfl wz.heap.size r3 vt (T1 ++ [(x0, x1)]) T2 rfl rfl HO3.out (HET.out _ HW3.out) HNT.out (by have := HT1l.out; have := HT2l.out; simp only [List.length_append, List.length_singleton]; omega) HW3.out.size ?_
                       intro r4 w4 ho4 hg4 _
                       have HO4 : Hid (ownE pairE w4 wz.heap.size r4 (T1 ++ [(x0, x1)] ++ T2)) := Lib.hid ho4
                       have HW4 : Hid (Below wz.heap.size wz w4) := Lib.hid (below_ownE HW3.out hg4 HO3.out)
                       clear ho4 hg4))
                  all_goals clear A1 A2 A3 I2 I3 S1 S2 S3 B0 B1 B2 B3 B4 HIQ HWQ hvh hvt
                  all_goals go_wp2
                  all_goals go_roundw
                  all_goals try (case measure => simp [intOf]; omega)
                  all_goals exact in_step h2 (HO4.out.mono HZS.out) (by have e := HT.out; rw [e.1, e.2, HX0.out, HX1.out]; exact HPUT.out) (HZB.out.trans (HW4.out.mono HZB.out.size))
            · obtain rfl : t = Q.length := by omega
              have htB : decide ((Q.length : Int) < (Q.length : Int)) = false := decide_eq_false (by omega)
              have HPUT := Lib.hid (rise_put (t := Q.length) (p := (x0, x1)) HRS.out ht HLO.out fun hx => (by omega))
              go_wp2_with fail
              go_quiet (fail)
              have HGY : Hid (Below wb.heap.size wb (wr.drewN nq)) := Lib.hid (below_drewN' HGB.out nq)
              generalize wr.drewN nq = wy at *
              go_wp2_with fail
              go_quiet (fail)
              have HBX : Hid (∀ W, Below (wy.drewN nq).heap.size (wy.drewN nq) W → W.cell? ⟨bp, 0, none⟩ = some (.int .i64 x0) ∧ W.cell? ⟨bp, 1, none⟩ = some (.int .i64 x1)) := Lib.hid fun W hW => HBX0.out W ((below_drewN' HGY.out nq).trans (hW.mono (below_drewN' HGY.out nq).size))
              have HQZ : Hid (eltsAt pairE (wy.drewN nq) (.slice aq Q.length cq) Q) := Lib.hid (HQB.out.below (below_drewN' HGY.out nq) (Nat.le_refl _))
              have HZB : Hid (Below w.heap.size w (wy.drewN nq)) := Lib.hid (HWB.out.trans ((below_drewN' HGY.out nq).mono HWB.out.size))
              have HZS : Hid (w.heap.size ≤ (wy.drewN nq).heap.size) := Lib.hid HZB.out.size
              generalize wy.drewN nq = wz at *
              obtain ⟨vh, hvh, nh, eh⟩ := pairs_head aq Q.length cq Q.length (Q.length : Int) (by omega) (by omega) HNN.out
              obtain ⟨vt, hvt, nt, et⟩ := pairs_tail aq Q.length cq Q.length (Q.length : Int) (by omega) (by omega) hcq HNN.out
              obtain ⟨T1, hT1⟩ : ∃ T1, T1 = Q.take Q.length := ⟨_, rfl⟩
              obtain ⟨T2, hT2⟩ : ∃ T2, T2 = Q.drop Q.length := ⟨_, rfl⟩
              have HT1l : Hid (T1.length ≤ 1000) := Lib.hid (by rw [hT1, List.length_take]; omega)
              have HT2l : Hid (T2.length ≤ 1000) := Lib.hid (by rw [hT2, List.length_drop]; omega)
              have HEH : Hid (∀ W, Below wz.heap.size wz W → eltsAt pairE W vh T1) := Lib.hid (fun W hW => by rw [hT1]; exact eh W _ (HQZ.out.below hW (Nat.le_refl _)) (by omega))
              have HET : Hid (∀ W, Below wz.heap.size wz W → eltsAt pairE W vt T2) := Lib.hid (fun W hW => by rw [hT2]; exact et W _ (HQZ.out.below hW (Nat.le_refl _)))
              have HNH := Lib.hid nh
              have HNT := Lib.hid nt
              have HT := Lib.hid (And.intro hT1 hT2)
              clear eh et nh nt hT1 hT2
              have bz := Below.refl wz.heap.size wz
              have B0 : Hid (Below wz.heap.size wz wz.drew) := Lib.hid bz.drew
              have B1 : Hid (Below wz.heap.size wz (wz.alloc (.cells #[] 32)).drew) := Lib.hid (bz.alloc (Nat.le_refl _) _).drew
              have B2 : Hid (Below wz.heap.size wz ((wz.alloc (.cells #[] 32)).alloc (.cells #[.int .i64 x0, .int .i64 x1] 32)).drew) := Lib.hid ((bz.alloc (Nat.le_refl _) _).alloc (by simp) _).drew
              have B3 : Hid (Below wz.heap.size wz ((wz.alloc (.cells #[.int .i64 x0, .int .i64 x1] 32)).alloc (.cells #[] 32)).drew) := Lib.hid ((bz.alloc (Nat.le_refl _) _).alloc (by simp) _).drew
              have B4 : Hid (Below wz.heap.size wz (wz.alloc (.cells #[.int .i64 x0, .int .i64 x1] 32)).drew) := Lib.hid (bz.alloc (Nat.le_refl _) _).drew
              have A1 : Hid (ownE pairE (wz.alloc (.cells #[] 32)).drew wz.heap.size (.slice (some ⟨wz.heap.size, 0, none⟩) 0 0) []) := Lib.hid (own0P wz).drew
              have A2 : Hid (ownE pairE ((wz.alloc (.cells #[] 32)).alloc (.cells #[.int .i64 x0, .int .i64 x1] 32)).drew wz.heap.size (.slice (some ⟨wz.heap.size, 0, none⟩) 0 0) []) := Lib.hid ((own0P wz).alloc _).drew
              have A3 : Hid (ownE pairE ((wz.alloc (.cells #[.int .i64 x0, .int .i64 x1] 32)).alloc (.cells #[] 32)).drew wz.heap.size (.slice (some ⟨wz.heap.size + 1, 0, none⟩) 0 0) []) := Lib.hid (by
                have := ((own0P (wz.alloc (.cells #[.int .i64 x0, .int .i64 x1] 32))).mono (b' := wz.heap.size) (by simp)).drew
                rwa [World.size_alloc] at this)
              have I2 : Hid (eltsAt pairE ((wz.alloc (.cells #[] 32)).alloc (.cells #[.int .i64 x0, .int .i64 x1] 32)).drew (.slice (some ⟨wz.heap.size + 1, 0, none⟩) 1 1) [(x0, x1)]) := Lib.hid (by
                have := (one_elt pairE (wz.alloc (.cells #[] 32)) (x0, x1)).drew 1
                rwa [World.size_alloc] at this)
              have I3 : Hid (eltsAt pairE ((wz.alloc (.cells #[.int .i64 x0, .int .i64 x1] 32)).alloc (.cells #[] 32)).drew (.slice (some ⟨wz.heap.size, 0, none⟩) 1 1) [(x0, x1)]) := Lib.hid (((one_elt pairE wz (x0, x1)).below ((Below.refl _ _).alloc (Nat.le_refl _) (.cells #[] 32)) (Nat.le_refl _)).drew 1)
              have S1 : Hid (wz.heap.size ≤ (wz.alloc (.cells #[] 32)).drew.heap.size) := Lib.hid B1.out.size
              have S2 : Hid (wz.heap.size ≤ ((wz.alloc (.cells #[] 32)).alloc (.cells #[.int .i64 x0, .int .i64 x1] 32)).drew.heap.size) := Lib.hid B2.out.size
              have S3 : Hid (wz.heap.size ≤ ((wz.alloc (.cells #[.int .i64 x0, .int .i64 x1] 32)).alloc (.cells #[] 32)).drew.heap.size) := Lib.hid B3.out.size
              clear bz
              go_wp2_with fail
              go_region_held3 (fun w' => w'.cell? ⟨bp, 0, none⟩ = some (.int .i64 x0) ∧ w'.cell? ⟨bp, 1, none⟩ = some (.int .i64 x1)) (first | exact HBX.out _ B0.out | exact HBX.out _ B1.out | exact HBX.out _ B2.out | exact HBX.out _ B3.out | exact HBX.out _ B4.out | exact HBX.out _ HW4.out | exact HBX.out _ HW3.out | exact HBX.out _ HWQ.out | exact HBX.out _ HW2.out | exact HBX.out _ HW1.out) (first
                | (refine step_append_elts pairE rfl (.tmp 62) (.tmp 65) rfl wz.heap.size (.slice (some ⟨wz.heap.size + 1, 0, none⟩) 0 0) vh [] T1 rfl rfl (by with_reducible exact A3.out) (HEH.out _ B3.out) HNH.out (by have := HT1l.out; simp only [List.length_nil]; omega) S3.out ?_
                   intro r2 w2 ho2 hg2 _
                   have HO2 : Hid (ownE pairE w2 wz.heap.size r2 T1) := Lib.hid ho2
                   have HW2 : Hid (Below wz.heap.size wz w2) := Lib.hid (below_ownE B3.out hg2 A3.out)
                   have HIQ : Hid (eltsAt pairE w2 (.slice (some ⟨wz.heap.size, 0, none⟩) 1 1) [(x0, x1)]) := Lib.hid (I3.out.kept hg2.size fun a n c e => by cases e; exact hg2.block _ (by simp; omega) (by simp [Value.ownBlock]))
                   have HWQ := Lib.hid HW2.out
                   clear ho2 hg2)
                | (refine step_append_elts pairE rfl (.tmp 62) (.tmp 65) rfl wz.heap.size (.slice (some ⟨wz.heap.size, 0, none⟩) 0 0) vh [] T1 rfl rfl (by with_reducible exact A2.out) (HEH.out _ B2.out) HNH.out (by have := HT1l.out; simp only [List.length_nil]; omega) S2.out ?_
                   intro r2 w2 ho2 hg2 _
                   have HO2 : Hid (ownE pairE w2 wz.heap.size r2 T1) := Lib.hid ho2
                   have HW2 : Hid (Below wz.heap.size wz w2) := Lib.hid (below_ownE B2.out hg2 A2.out)
                   have HIQ : Hid (eltsAt pairE w2 (.slice (some ⟨wz.heap.size + 1, 0, none⟩) 1 1) [(x0, x1)]) := Lib.hid (I2.out.kept hg2.size fun a n c e => by cases e; exact hg2.block _ (by simp) (by simp [Value.ownBlock]))
                   have HWQ := Lib.hid HW2.out
                   clear ho2 hg2)
                | (refine step_append_elts pairE rfl (.tmp 62) (.tmp 65) rfl wz.heap.size (.slice (some ⟨wz.heap.size, 0, none⟩) 0 0) vh [] T1 rfl rfl (by with_reducible exact A1.out) (HEH.out _ B1.out) HNH.out (by have := HT1l.out; simp only [List.length_nil]; omega) S1.out ?_
                   intro r2 w2 ho2 hg2 _
                   have HO1 : Hid (ownE pairE w2 wz.heap.size r2 T1) := Lib.hid ho2
                   have HW1 : Hid (Below wz.heap.size wz w2) := Lib.hid (below_ownE B1.out hg2 A1.out)
                   have HO2 : Hid (ownE pairE (w2.alloc (.cells #[.int .i64 x0, .int .i64 x1] 32)) wz.heap.size r2 T1) := Lib.hid (HO1.out.alloc _)
                   have HIQ : Hid (eltsAt pairE (w2.alloc (.cells #[.int .i64 x0, .int .i64 x1] 32)) (.slice (some ⟨w2.heap.size, 0, none⟩) 1 1) [(x0, x1)]) := Lib.hid (one_elt pairE w2 (x0, x1))
                   have HWQ : Hid (Below wz.heap.size wz (w2.alloc (.cells #[.int .i64 x0, .int .i64 x1] 32))) := Lib.hid (HW1.out.alloc HW1.out.size _)
                   clear ho2 hg2)
                | (refine step_append_elts pairE rfl (.tmp 66) (.tmp 68) rfl wz.heap.size r2 _ T1 [(x0, x1)] rfl rfl HO2.out HIQ.out (someNone _ _ _) (by have := HT1l.out; simp only [List.length_singleton]; omega) HWQ.out.size ?_
                   intro r3 w3 ho3 hg3 _
                   have HO3 : Hid (ownE pairE w3 wz.heap.size r3 (T1 ++ [(x0, x1)])) := Lib.hid ho3
                   have HW3 : Hid (Below wz.heap.size wz w3) := Lib.hid (below_ownE HWQ.out hg3 HO2.out)
                   clear ho3 hg3)
                | (refine step_append_elts pairE rfl (.tmp 69) (.tmp 72) rfl wz.heap.size r3 vt (T1 ++ [(x0, x1)]) T2 rfl rfl HO3.out (HET.out _ HW3.out) HNT.out (by have := HT1l.out; have := HT2l.out; simp only [List.length_append, List.length_singleton]; omega) HW3.out.size ?_
                   intro r4 w4 ho4 hg4 _
                   have HO4 : Hid (ownE pairE w4 wz.heap.size r4 (T1 ++ [(x0, x1)] ++ T2)) := Lib.hid ho4
                   have HW4 : Hid (Below wz.heap.size wz w4) := Lib.hid (below_ownE HW3.out hg4 HO3.out)
                   clear ho4 hg4))
              all_goals clear A1 A2 A3 I2 I3 S1 S2 S3 B0 B1 B2 B3 B4 HIQ HWQ hvh hvt
              all_goals go_wp2
              all_goals go_roundw
              all_goals try (case measure => simp [intOf]; omega)
              all_goals exact in_step h2 (HO4.out.mono HZS.out) (by have e := HT.out; rw [e.1, e.2, HX0.out, HX1.out]; exact HPUT.out) (HZB.out.trans (HW4.out.mono HZB.out.size))
        · have HT : Hid ((adj B).take m = adj B) := Lib.hid (List.take_of_length_le (by have := adj_len B; omega))
          go_wp2
          go_roundw
          case measure => simp [intOf]
          case rel => exact ⟨2, 2, Q, by simp, rfl, by omega, HO.out, by have := HRS.out; rw [HT.out] at this; simpa [sOf] using this, HB.out⟩
    | 2, _ =>
      obtain rfl : kz = 2 := by omega
      clear hkz
      go_wp2
      go_ret
      exact ⟨_, Q, rfl, HO.out, HRS.out, HB.out⟩
end Go.Proofs.Ytdnokkmnpgdplaa
