/- The document's own Right, walked: are merges right? -/
import Derived.Test.YtbacbgpemaldbaaNvT
import Derived.BigQuiet
namespace Go.Proofs.Ytbacbgpemaldbaa
open Go.RowKit

/-- The texts that the first i merges make. -/
def madeL (ms : List Mg) (i : Nat) : List ByteArray := (ms.take i).map fun m => m.1 ++ m.2
set_option maxRecDepth 100000 in
theorem madeL_len {ms : List Mg} {i : Nat} (h : i ≤ ms.length) : (madeL ms i).length = i := by simp [madeL, h]
set_option maxRecDepth 100000 in
theorem madeL_next {ms : List Mg} {i : Nat} (h : i < ms.length) : madeL ms (i + 1) = madeL ms i ++ [ms[i].1 ++ ms[i].2] := by
  unfold madeL
  rw [List.take_succ_eq_append_getElem h, List.map_append]
  rfl
def SideOk (ms : List Mg) (j : Nat) (s : ByteArray) : Prop := s.size = 1 ∨ s ∈ madeL ms j
/-- Merge j is right. -/
def OkAt (ms : List Mg) (j : Nat) : Prop := ∃ h : j < ms.length, SideOk ms j ms[j].1 ∧ SideOk ms j ms[j].2 ∧ ¬ (ms[j].1 ++ ms[j].2) ∈ madeL ms j
set_option maxRecDepth 100000 in
theorem right_iff {ms : List Mg} : RightM ms ↔ ∀ j, j < ms.length → OkAt ms j := by
  have hm : ∀ (j : Nat) (t : ByteArray), t ∈ madeL ms j ↔ ∃ m ∈ ms.take j, t = m.1 ++ m.2 := fun j t => by
    unfold madeL
    rw [List.mem_map]
    constructor
    · rintro ⟨m, h, e⟩; exact ⟨m, h, e.symm⟩
    · rintro ⟨m, h, e⟩; exact ⟨m, h, e.symm⟩
  constructor
  · intro h j hj
    obtain ⟨⟨a, b⟩, c⟩ := h j hj
    refine ⟨hj, ?_, ?_, fun hk => ?_⟩
    · rcases a with a | a
      · exact .inl a
      · exact .inr ((hm j _).2 a)
    · rcases b with b | b
      · exact .inl b
      · exact .inr ((hm j _).2 b)
    · obtain ⟨m, h1, h2⟩ := (hm j _).1 hk
      exact c m h1 h2.symm
  · intro h j hj
    obtain ⟨_, a, b, c⟩ := h j hj
    refine ⟨⟨?_, ?_⟩, fun m h1 h2 => c ((hm j _).2 ⟨m, h1, h2.symm⟩)⟩
    · rcases a with a | a
      · exact .inl a
      · exact .inr ((hm j _).1 a)
    · rcases b with b | b
      · exact .inl b
      · exact .inr ((hm j _).1 b)
set_option maxRecDepth 100000 in
theorem text_at {w : World} {a : Option Addr} {n cap : Nat} {L : List ByteArray} (h : eltsAt textE w (.slice a n cap) L) {k : Nat} (hk : k < L.length) : ∃ ad, a = some ad ∧ w.cell? (ad.add k) = some (.string L[k]) := by
  obtain ⟨a', cap', e, hc⟩ := id h
  cases e
  obtain ⟨ad, rfl, _, _⟩ := hc k hk
  exact ⟨ad, rfl, txt_cell h (Below.refl _ _) hk⟩
/-- All merges up to i are right; what they make lies in v. -/
def RgRel (ms : List Mg) (w : World) (v i : Value) (wr : World) : Prop :=
  ∃ k : Nat, i = .int .i64 (k : Int) ∧ k ≤ ms.length ∧ (∀ j, j < k → OkAt ms j) ∧ ownE textE wr w.heap.size v (madeL ms k) ∧ Below w.heap.size w wr
def RgSide (ms : List Mg) (i : Nat) (wo : World) (x : Value) (wr : World) : Prop :=
  ∃ k : Nat, x = .int .i64 (k : Int) ∧ k ≤ 2 ∧ (∀ h : i < ms.length, (1 ≤ k → SideOk ms i ms[i].1) ∧ (2 ≤ k → SideOk ms i ms[i].2)) ∧ wr = wo
def RgIn (L : List ByteArray) (s : ByteArray) (wo : World) (o x : Value) (wr : World) : Prop :=
  ∃ (k : Nat) (f : Bool), x = .int .i64 (k : Int) ∧ k ≤ L.length ∧ o = .bool f ∧ (f = true ↔ (s.size = 1 ∨ s ∈ L.take k)) ∧ wr = wo
def RgNo (L : List ByteArray) (s : ByteArray) (wo : World) (x : Value) (wr : World) : Prop := ∃ k : Nat, x = .int .i64 (k : Int) ∧ k ≤ L.length ∧ ¬ s ∈ L.take k ∧ wr = wo
def RgRet (ms : List Mg) (w : World) (e : Ending) (w' : World) : Prop := ∃ f : Bool, e = .returned (.bool f) ∧ (f = true ↔ RightM ms) ∧ Below w.heap.size w w'
set_option maxRecDepth 100000 in
set_option maxHeartbeats 8000000 in
theorem rright_any (x : Value) (ms : List Mg) (w : World) (hx : eltsAt mergeE w x ms) (hl : ms.length ≤ 1000000) (hsz : ∀ m ∈ ms, m.1.size ≤ 1000000 ∧ m.2.size ≤ 1000000) :
    Calls Try.prog 11 #[x] w fun e w' => RgRet ms w e w' := by
  obtain ⟨a, cap, rfl, _⟩ := id hx
  obtain ⟨N, hN⟩ : ∃ N, ms.length = N := ⟨_, rfl⟩
  have HX := Lib.hid hx
  rw [hN] at HX ⊢
  have HN := Lib.hid hN
  have HSZ := Lib.hid hsz
  have hNl : N ≤ 1000000 := by omega
  have HST : Hid (RgRel ms w (.slice none 0 0) (.int .i64 0) w) := Lib.hid ⟨0, rfl, Nat.zero_le _, fun j hj => by omega, ownE.nil _ _, Below.refl _ _⟩
  clear hx hN hsz
  go_enter Try.func11, Try.ntmps11
  go_wp2
  go_loopw [3, 4] (fun v i wr => RgRel ms w v i wr) (fun _ i _ => N - (intOf i).toNat)
  case atStart => exact HST.out
  case round =>
    clear HST
    obtain ⟨i, rfl, hi, hok, ho, hbel⟩ := hrel
    rw [HN.out] at hi
    have HOK := Lib.hid hok; have HO := Lib.hid ho; have HB := Lib.hid hbel
    clear hok ho hbel
    by_cases hgo : i < N
    · have hgoI : (i : Int) < (N : Int) := by omega
      have hiM : i < ms.length := by rw [HN.out]; exact hgo
      have hX := HX.out
      rw [← HN.out] at hX
      obtain ⟨ad, rfl⟩ : ∃ ad, a = some ad := by
        obtain ⟨_, _, e1, hc⟩ := id hX
        obtain ⟨ad, e2, _⟩ := hc i hiM
        exact ⟨ad, (Value.slice.inj e1).1.trans e2⟩
      obtain ⟨s0, s1⟩ := merges_at hX HB.out hiM
      obtain ⟨⟨p, q⟩, hpq⟩ : ∃ m, ms[i] = m := ⟨_, rfl⟩
      rw [hpq] at s0 s1
      simp only at s0 s1
      have HPQ := Lib.hid hpq
      have HML := Lib.hid (madeL_len (ms := ms) (i := i) (by omega))
      obtain ⟨sa, sc, ev, _⟩ := HO.out.form
      rw [HML.out] at ev
      subst ev
      obtain ⟨wo, hwo⟩ : ∃ wo, wo = wr := ⟨_, rfl⟩
      subst hwo
      have hwi : IntKind.i64.wrap ((i : Int) + 1) = (i : Int) + 1 := IntWalk.i64_in _ (by omega)
      have HSD : Hid (RgSide ms i wo (.int .i64 0) wo) := Lib.hid ⟨0, rfl, by omega, fun h => ⟨fun h => by omega, fun h => by omega⟩, rfl⟩
      clear hX hpq
      go_wp2
      go_loopw [5] (fun x wr => RgSide ms i wo x wr) (fun x _ => 2 - (intOf x).toNat)
      case atStart => exact HSD.out
      case round =>
        clear HSD
        obtain ⟨k, rfl, hk, hsd, hwr⟩ := hrel
        replace hwr := hwr.symm
        subst hwr
        have HSD := Lib.hid hsd
        clear hsd
        by_cases hk2 : k < 2
        · have hk2I : (k : Int) < 2 := by omega
          obtain ⟨t, ht⟩ : ∃ t, (if k = 1 then q else p) = t := ⟨_, rfl⟩
          have HT := Lib.hid ht
          have hwk : IntKind.i64.wrap ((k : Int) + 1) = (k : Int) + 1 := IntWalk.i64_in _ (by omega)
          clear ht
          have HIN0 : Hid (RgIn (madeL ms i) t wo (.bool (decide (t.size = 1))) (.int .i64 0) wo) := Lib.hid ⟨0, _, rfl, Nat.zero_le _, rfl, by simp, rfl⟩
          by_cases hk1 : k = 1
          · subst hk1
            obtain rfl : t = q := by have := HT.out; simpa using this.symm
            have hts1 : ((t.size : Int) == 1) = decide (t.size = 1) := by
              by_cases e : t.size = 1
              · simp [e]
              · have : ¬ ((t.size : Int) = 1) := by omega
                simp [e, this]
            go_wp2
            go_loopw [7, 8] (fun o x wr => RgIn (madeL ms i) t wo o x wr) (fun _ x _ => i + 1 - (intOf x).toNat)
            case atStart => exact HIN0.out
            case round =>
              clear HIN0
              obtain ⟨j, f, rfl, hj, rfl, hf, hwr⟩ := hrel
              replace hwr := hwr.symm
              subst hwr
              rw [HML.out] at hj
              have HF := Lib.hid hf
              clear hf
              cases f with
              | true =>
                have HSO : Hid (SideOk ms i t) := Lib.hid (by
                  rcases HF.out.1 rfl with h | h
                  · exact .inl h
                  · exact .inr (List.mem_of_mem_take h))
                have HNXT : Hid (∀ h : i < ms.length, (1 ≤ 1 + 1 → SideOk ms i ms[i].1) ∧ (2 ≤ 1 + 1 → SideOk ms i ms[i].2)) := Lib.hid fun h => by
                  have h1 := HSD.out h
                  rw [HPQ.out] at h1 ⊢
                  exact ⟨fun _ => h1.1 (by omega), fun _ => HSO.out⟩
                by_cases hjl : j < i
                · have hjI : (j : Int) < (i : Int) := by omega
                  go_wp2
                  go_roundw
                  case measure => simp [intOf]
                  case rel => exact ⟨1 + 1, by simp, by omega, HNXT.out, rfl⟩
                · have hjI : ¬ (j : Int) < (i : Int) := by omega
                  go_wp2
                  go_roundw
                  case measure => simp [intOf]
                  case rel => exact ⟨1 + 1, by simp, by omega, HNXT.out, rfl⟩
              | false =>
                by_cases hjl : j < i
                · have hjI : (j : Int) < (i : Int) := by omega
                  have hjL : j < (madeL ms i).length := by rw [HML.out]; exact hjl
                  have hrd := HO.out.reads
                  obtain ⟨sad, rfl, t0⟩ := text_at hrd hjL
                  obtain ⟨u, hu⟩ : ∃ u, (madeL ms i)[j] = u := ⟨_, rfl⟩
                  rw [hu] at t0
                  have hwj : IntKind.i64.wrap ((j : Int) + 1) = (j : Int) + 1 := IntWalk.i64_in _ (by omega)
                  have htk : (madeL ms i).take (j + 1) = (madeL ms i).take j ++ [u] := by rw [List.take_succ_eq_append_getElem hjL, hu]
                  have HTK := Lib.hid htk
                  clear hrd hu htk
                  by_cases hus : u = t
                  · subst hus
                    have HMM : Hid (u ∈ (madeL ms i).take (j + 1)) := Lib.hid (by rw [HTK.out]; simp)
                    go_wp2
                    go_roundw
                    case measure => simp [intOf]; omega
                    case rel => exact ⟨j + 1, true, by simp, by rw [HML.out]; omega, rfl, ⟨fun _ => .inr HMM.out, fun _ => rfl⟩, rfl⟩
                  · have hne := text_ne hus
                    have HMM : Hid (¬ (t.size = 1 ∨ t ∈ (madeL ms i).take (j + 1))) := Lib.hid (by
                      rw [HTK.out]
                      intro h
                      have h2 : ¬ (t.size = 1 ∨ t ∈ (madeL ms i).take j) := fun h => absurd (HF.out.2 h) (by decide)
                      rcases h with h | h
                      · exact h2 (.inl h)
                      · rcases List.mem_append.1 h with h | h
                        · exact h2 (.inr h)
                        · exact hus (List.mem_singleton.1 h).symm)
                    go_wp2
                    go_roundw
                    case measure => simp [intOf]; omega
                    case rel => exact ⟨j + 1, false, by simp, by rw [HML.out]; omega, rfl, ⟨fun h => (by cases h), fun h => absurd h HMM.out⟩, rfl⟩
                · have hjI : ¬ (j : Int) < (i : Int) := by omega
                  have HNR : Hid (¬ RightM ms) := Lib.hid fun h => by
                    obtain ⟨_, h1, h2, _⟩ := right_iff.1 h i hiM
                    rw [HPQ.out] at h1 h2
                    have h4 : ¬ (t.size = 1 ∨ t ∈ madeL ms i) := fun h5 => by
                      have h6 := HF.out.2 (by rw [List.take_of_length_le (by rw [HML.out]; omega)]; exact h5)
                      cases h6
                    exact h4 h2
                  go_wp2
                  go_ret
                  exact ⟨false, rfl, ⟨fun h => (by cases h), fun h => absurd h HNR.out⟩, HB.out⟩
          · obtain rfl : k = 0 := by omega
            obtain rfl : t = p := by have := HT.out; simpa using this.symm
            have hts1 : ((t.size : Int) == 1) = decide (t.size = 1) := by
              by_cases e : t.size = 1
              · simp [e]
              · have : ¬ ((t.size : Int) = 1) := by omega
                simp [e, this]
            go_wp2
            go_loopw [7, 8] (fun o x wr => RgIn (madeL ms i) t wo o x wr) (fun _ x _ => i + 1 - (intOf x).toNat)
            case atStart => exact HIN0.out
            case round =>
              clear HIN0
              obtain ⟨j, f, rfl, hj, rfl, hf, hwr⟩ := hrel
              replace hwr := hwr.symm
              subst hwr
              rw [HML.out] at hj
              have HF := Lib.hid hf
              clear hf
              cases f with
              | true =>
                have HSO : Hid (SideOk ms i t) := Lib.hid (by
                  rcases HF.out.1 rfl with h | h
                  · exact .inl h
                  · exact .inr (List.mem_of_mem_take h))
                have HNXT : Hid (∀ h : i < ms.length, (1 ≤ 0 + 1 → SideOk ms i ms[i].1) ∧ (2 ≤ 0 + 1 → SideOk ms i ms[i].2)) := Lib.hid fun h => by
                  have h1 := HSD.out h
                  rw [HPQ.out] at h1 ⊢
                  exact ⟨fun _ => HSO.out, fun h => by omega⟩
                by_cases hjl : j < i
                · have hjI : (j : Int) < (i : Int) := by omega
                  go_wp2
                  go_roundw
                  case measure => simp [intOf]
                  case rel => exact ⟨0 + 1, by simp, by omega, HNXT.out, rfl⟩
                · have hjI : ¬ (j : Int) < (i : Int) := by omega
                  go_wp2
                  go_roundw
                  case measure => simp [intOf]
                  case rel => exact ⟨0 + 1, by simp, by omega, HNXT.out, rfl⟩
              | false =>
                by_cases hjl : j < i
                · have hjI : (j : Int) < (i : Int) := by omega
                  have hjL : j < (madeL ms i).length := by rw [HML.out]; exact hjl
                  have hrd := HO.out.reads
                  obtain ⟨sad, rfl, t0⟩ := text_at hrd hjL
                  obtain ⟨u, hu⟩ : ∃ u, (madeL ms i)[j] = u := ⟨_, rfl⟩
                  rw [hu] at t0
                  have hwj : IntKind.i64.wrap ((j : Int) + 1) = (j : Int) + 1 := IntWalk.i64_in _ (by omega)
                  have htk : (madeL ms i).take (j + 1) = (madeL ms i).take j ++ [u] := by rw [List.take_succ_eq_append_getElem hjL, hu]
                  have HTK := Lib.hid htk
                  clear hrd hu htk
                  by_cases hus : u = t
                  · subst hus
                    have HMM : Hid (u ∈ (madeL ms i).take (j + 1)) := Lib.hid (by rw [HTK.out]; simp)
                    go_wp2
                    go_roundw
                    case measure => simp [intOf]; omega
                    case rel => exact ⟨j + 1, true, by simp, by rw [HML.out]; omega, rfl, ⟨fun _ => .inr HMM.out, fun _ => rfl⟩, rfl⟩
                  · have hne := text_ne hus
                    have HMM : Hid (¬ (t.size = 1 ∨ t ∈ (madeL ms i).take (j + 1))) := Lib.hid (by
                      rw [HTK.out]
                      intro h
                      have h2 : ¬ (t.size = 1 ∨ t ∈ (madeL ms i).take j) := fun h => absurd (HF.out.2 h) (by decide)
                      rcases h with h | h
                      · exact h2 (.inl h)
                      · rcases List.mem_append.1 h with h | h
                        · exact h2 (.inr h)
                        · exact hus (List.mem_singleton.1 h).symm)
                    go_wp2
                    go_roundw
                    case measure => simp [intOf]; omega
                    case rel => exact ⟨j + 1, false, by simp, by rw [HML.out]; omega, rfl, ⟨fun h => (by cases h), fun h => absurd h HMM.out⟩, rfl⟩
                · have hjI : ¬ (j : Int) < (i : Int) := by omega
                  have HNR : Hid (¬ RightM ms) := Lib.hid fun h => by
                    obtain ⟨_, h1, h2, _⟩ := right_iff.1 h i hiM
                    rw [HPQ.out] at h1 h2
                    have h4 : ¬ (t.size = 1 ∨ t ∈ madeL ms i) := fun h5 => by
                      have h6 := HF.out.2 (by rw [List.take_of_length_le (by rw [HML.out]; omega)]; exact h5)
                      cases h6
                    exact h4 h1
                  go_wp2
                  go_ret
                  exact ⟨false, rfl, ⟨fun h => (by cases h), fun h => absurd h HNR.out⟩, HB.out⟩
        · have hk2I : ¬ (k : Int) < 2 := by omega
          obtain rfl : k = 2 := by omega
          have HS12 : Hid (SideOk ms i p ∧ SideOk ms i q) := Lib.hid (by
            have h1 := HSD.out hiM
            rw [HPQ.out] at h1
            exact ⟨h1.1 (by omega), h1.2 (by omega)⟩)
          have hpqs : p.size + q.size ≤ 9223372036854775807 := by
            have h1 := HSZ.out _ (List.getElem_mem hiM)
            rw [HPQ.out] at h1
            simp only at h1
            omega
          have hns : (9223372036854775807 < p.size + q.size) = False := eq_false (by omega)
          go_wp2_with fail
          refine wp_region_quiet_lit (by kernel_rfl) (by kernel_rfl) ?_
          repeat (first | go_big_quiet_skip | quiet_step (fail))
          refine wpQuiet_nil ?_
          intro _ hqq
          obtain ⟨nq, hq2⟩ := hqq
          subst hq2
          obtain ⟨s, hs⟩ : ∃ s, p ++ q = s := ⟨_, rfl⟩
          try rw [hs]
          have HS := Lib.hid hs
          have HB2 : Hid (Below w.heap.size w (wo.drewN nq)) := Lib.hid (below_drewN' HB.out nq)
          have HO2 : Hid (ownE textE (wo.drewN nq) w.heap.size (.slice sa i sc) (madeL ms i)) := Lib.hid (HO.out.drewN nq)
          clear s0 s1 hs
          generalize wo.drewN nq = wz at *
          have HNO : Hid (RgNo (madeL ms i) s wz (.int .i64 0) wz) := Lib.hid ⟨0, rfl, Nat.zero_le _, by simp, rfl⟩
          go_wp2
          go_loopw [10] (fun x wr => RgNo (madeL ms i) s wz x wr) (fun x _ => i - (intOf x).toNat)
          case atStart => exact HNO.out
          case round =>
            clear HNO
            obtain ⟨j, rfl, hj, hno, hwr⟩ := hrel
            replace hwr := hwr.symm
            subst hwr
            rw [HML.out] at hj
            have HNOT := Lib.hid hno
            clear hno
            by_cases hjl : j < i
            · have hjI : (j : Int) < (i : Int) := by omega
              have hjL : j < (madeL ms i).length := by rw [HML.out]; exact hjl
              have hrd := HO2.out.reads
              obtain ⟨sad, rfl, t0⟩ := text_at hrd hjL
              obtain ⟨t, ht⟩ : ∃ t, (madeL ms i)[j] = t := ⟨_, rfl⟩
              rw [ht] at t0
              have hwj : IntKind.i64.wrap ((j : Int) + 1) = (j : Int) + 1 := IntWalk.i64_in _ (by omega)
              have htk : (madeL ms i).take (j + 1) = (madeL ms i).take j ++ [t] := by rw [List.take_succ_eq_append_getElem hjL, ht]
              have HTK := Lib.hid htk
              have HTM : Hid (t ∈ madeL ms i) := Lib.hid (by rw [← ht]; exact List.getElem_mem _)
              clear hrd ht htk
              by_cases hts : t = s
              · subst hts
                have HNR : Hid (¬ RightM ms) := Lib.hid fun h => by
                  obtain ⟨_, _, _, h3⟩ := right_iff.1 h i hiM
                  rw [HPQ.out] at h3
                  exact h3 (by rw [HS.out]; exact HTM.out)
                go_wp2
                go_ret
                exact ⟨false, rfl, ⟨fun h => (by cases h), fun h => absurd h HNR.out⟩, HB2.out⟩
              · have hne := text_ne hts
                have HNX : Hid (¬ s ∈ (madeL ms i).take (j + 1)) := Lib.hid (by
                  rw [HTK.out]
                  intro h
                  rcases List.mem_append.1 h with h | h
                  · exact HNOT.out h
                  · exact hts (List.mem_singleton.1 h).symm)
                go_wp2
                go_roundw
                case measure => simp [intOf]; omega
                case rel => exact ⟨j + 1, by simp, by rw [HML.out]; omega, HNX.out, rfl⟩
            · have hjI : ¬ (j : Int) < (i : Int) := by omega
              have HOKI : Hid (∀ j', j' < i + 1 → OkAt ms j') := Lib.hid fun j' hj' => by
                by_cases e : j' = i
                · subst e
                  refine ⟨hiM, ?_⟩
                  rw [HPQ.out]
                  refine ⟨HS12.out.1, HS12.out.2, ?_⟩
                  have h1 := HNOT.out
                  rw [List.take_of_length_le (by rw [HML.out]; omega)] at h1
                  rw [HS.out]
                  exact h1
                · exact HOK.out j' (by omega)
              have HNXT : Hid (madeL ms (i + 1) = madeL ms i ++ [s]) := Lib.hid (by rw [madeL_next hiM, HPQ.out, HS.out])
              have HA : Hid (ownE textE (wz.alloc (.cells #[.string s] 9)) w.heap.size (.slice sa i sc) (madeL ms i)) := Lib.hid (HO2.out.alloc _)
              have HE : Hid (eltsAt textE (wz.alloc (.cells #[.string s] 9)) (.slice (some ⟨wz.heap.size, 0, none⟩) 1 1) [s]) := Lib.hid (one_elt textE wz s)
              have HZ2 : Hid (w.heap.size ≤ (wz.alloc (.cells #[.string s] 9)).heap.size) := Lib.hid (by rw [World.size_alloc]; have := HB2.out.size; omega)
              go_wp2_with (at_builtin; refine wpList_append_elts textE rfl (.tmp 77) (.tmp 79) rfl w.heap.size _ _ (madeL ms i) [s] rfl rfl HA.out HE.out (someNone _ _ _) (by rw [HML.out]; simp only [List.length_singleton]; omega) HZ2.out ?_; intro r5 w5 hown5 hg5 _; have HO5 := Lib.hid hown5; have HG5 := Lib.hid hg5; clear hown5 hg5)
              go_roundw
              case measure => simp [intOf]; omega
              case rel => exact ⟨i + 1, by simp, by rw [HN.out]; omega, HOKI.out, by rw [HNXT.out]; exact HO5.out, (HB2.out.alloc HB2.out.size _).grown HG5.out HZ2.out fun g e => (HO2.out.lt g e).1⟩
    · have hgoI : ¬ (i : Int) < (N : Int) := by omega
      have HR : Hid (RightM ms) := Lib.hid (right_iff.2 fun j hj => HOK.out j (by rw [HN.out] at hj; omega))
      go_wp2
      go_ret
      exact ⟨true, rfl, ⟨fun _ => HR.out, fun _ => rfl⟩, HB.out⟩
end Go.Proofs.Ytbacbgpemaldbaa
