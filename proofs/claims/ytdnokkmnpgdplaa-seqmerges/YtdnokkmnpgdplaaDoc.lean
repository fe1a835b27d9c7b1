/- The document's symbols; two rows of numbers are the same. -/
import Derived.Test.YtdnokkmnpgdplaaAwake
namespace Go.Proofs.Ytdnokkmnpgdplaa
open Go.RowKit Go.Maps

theorem eltsAt.same_drewN {α : Type} {R : Elt α} {w : World} {v : Value} {L : List α} (h : eltsAt R w v L) (n : Nat) : eltsAt R (w.drewN n) v L := h
set_option maxHeartbeats 2000000 in
theorem ints_any (v u : Value) (X : List Int) (w : World) (hv : eltsAt intE w v X) (hu : eltsAt intE w u X) (hl : X.length ≤ 1000) : Calls Try.prog 14 #[v, u] w fun e w' => e = .returned (.bool true) ∧ ∃ n, w' = w.drewN n := by
  have HV := Lib.hid hv; have HU := Lib.hid hu
  obtain ⟨a, ca, rfl, hca⟩ := hv
  obtain ⟨b, cb, rfl, hcb⟩ := hu
  clear hca hcb
  go_enter Try.func14, Try.ntmps14
  go_wp2
  go_loopw [5] (fun i wr => (∃ k : Nat, i = .int .i64 (k : Int) ∧ k ≤ X.length) ∧ ∃ n, wr = w.drewN n) (fun i _ => X.length - (intOf i).toNat)
  case atStart => exact ⟨⟨0, rfl, Nat.zero_le _⟩, 0, rfl⟩
  case round =>
    obtain ⟨⟨k, rfl, hk⟩, n, rfl⟩ := hrel
    by_cases hgo : k < X.length
    · obtain ⟨_, _, e1, hc1⟩ := HV.out
      obtain ⟨rfl, _, rfl⟩ := Value.slice.inj e1
      obtain ⟨_, _, e2, hc2⟩ := HU.out
      obtain ⟨rfl, _, rfl⟩ := Value.slice.inj e2
      obtain ⟨ad, rfl, _, p1⟩ := hc1 k hgo
      obtain ⟨bd, rfl, _, p2⟩ := hc2 k hgo
      have c1 : (w.drewN n).cell? (ad.add k) = some (.int .i64 X[k]) := by have := p1 0 _ rfl; rwa [show k * intE.n + 0 = k by show k * 1 + 0 = k; omega] at this
      have c2 : (w.drewN n).cell? (bd.add k) = some (.int .i64 X[k]) := by have := p2 0 _ rfl; rwa [show k * intE.n + 0 = k by show k * 1 + 0 = k; omega] at this
      clear hc1 hc2 p1 p2 e1 e2
      generalize hwd : w.drewN n = wd at *
      go_wp2_with fail
      go_quiet (fail)
      go_wp2
      go_roundw
      case measure => simp [intOf]; omega
      case rel => exact ⟨⟨k + 1, by simp, hgo⟩, n + nq, by rw [← hwd, World.drewN_drewN]⟩
    · go_wp2
      go_ret
      exact ⟨rfl, _, rfl⟩
def RSymRel (s : ByteArray) (w : World) (v i : Value) (wr : World) : Prop :=
  ∃ k : Nat, i = .int .i64 (k : Int) ∧ k ≤ s.size ∧ ownE intE wr w.heap.size v ((syms s).take k) ∧ Below w.heap.size w wr
set_option maxHeartbeats 2000000 in
theorem rsym_any (s : ByteArray) (w : World) (hs : s.size ≤ 1000) : Calls Try.prog 9 #[.string s] w fun e w' => ∃ v, e = .returned v ∧ ownE intE w' w.heap.size v (syms s) ∧ Below w.heap.size w w' := by
  go_enter Try.func9, Try.ntmps9
  go_wp2
  go_loopw [3, 4] (fun v i wr => RSymRel s w v i wr) (fun _ i _ => s.size - (intOf i).toNat)
  case atStart => exact ⟨0, rfl, Nat.zero_le _, ownE.nil w _, Below.refl _ w⟩
  case round =>
    obtain ⟨k, rfl, hk, ho, hbel⟩ := hrel
    have HO := Lib.hid ho; have HB := Lib.hid hbel
    have hlen := syms_len s
    clear ho hbel
    by_cases hgo : k < s.size
    · obtain ⟨z, hz⟩ : ∃ z, (syms s)[k]'(by omega) = z := ⟨_, rfl⟩
      have hb0 : wrap64 (s[k].toNat : Int) = z := by
        rw [wrap64_small (by omega) (by have := s[k].toNat_lt; omega), ← hz]
        simp [syms, bs]
        rfl
      have HA : Hid (ownE intE (wr.alloc (.cells #[.int .i64 z] 3)) w.heap.size u3 ((syms s).take k)) := Lib.hid (HO.out.alloc _)
      have HE : Hid (eltsAt intE (wr.alloc (.cells #[.int .i64 z] 3)) (.slice (some ⟨wr.heap.size, 0, none⟩) 1 1) [z]) := Lib.hid (one_elt intE wr z)
      have HZ : Hid (w.heap.size ≤ (wr.alloc (.cells #[.int .i64 z] 3)).heap.size) := Lib.hid (by rw [World.size_alloc]; have := HB.out.size; omega)
      go_wp2_with (at_builtin; refine wpList_append_elts intE rfl (.tmp 11) (.tmp 16) rfl w.heap.size u3 _ ((syms s).take k) [z] rfl rfl HA.out HE.out (someNone _ _ _) (by simp; omega) HZ.out ?_; intro r5 w5 hown5 hg5 _; have HO5 := Lib.hid hown5; have HG5 := Lib.hid hg5; clear hown5 hg5)
      go_roundw
      case measure => simp [intOf]; omega
      case rel => exact ⟨k + 1, by simp, hgo, by rw [ptake_snoc (by omega), hz]; exact HO5.out, (HB.out.alloc HB.out.size _).grown HG5.out HZ.out fun g e => (HO.out.lt g e).1⟩
    · have HT : Hid ((syms s).take k = syms s) := Lib.hid (List.take_of_length_le (by omega))
      go_wp2
      go_ret
      exact ⟨_, rfl, by have := HO.out; rwa [HT.out] at this, HB.out⟩
end Go.Proofs.Ytdnokkmnpgdplaa
