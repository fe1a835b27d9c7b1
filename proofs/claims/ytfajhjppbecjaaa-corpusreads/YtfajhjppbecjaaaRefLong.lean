/- The contracts of gluepotref03.Long and Open. -/
import Derived.Test.YtfajhjppbecjaaaRefWords
namespace Go.Proofs.Ytfajhjppbecjaaa
open Go.RowKit

/-- What Long answers. -/
def LongRes (lim : Nat) (l : List UInt8) (r : Int) : Prop := (r = -1 ∧ fits lim l) ∨ ∃ k : Nat, r = (k : Int) ∧ longAt lim l k
def LongRel (s : ByteArray) (lim : Nat) (w : World) (n i : Value) (wr : World) : Prop :=
  ∃ k : Nat, k ≤ s.size ∧ i = .int .i64 (k : Int) ∧ n = .int .i64 ((opn ((bs s).take k)).length : Int) ∧ fits lim ((bs s).take k) ∧ wr = w
theorem long_any (s : ByteArray) (lim : Nat) (w : World) (hs : s.size ≤ 1048576) (hl : (lim : Int) ≤ 9223372036854775807) :
    Calls Try.prog 18 #[.string s, .int .i64 (lim : Int)] w fun e w' => (∃ r, e = .returned (.int .i64 r) ∧ LongRes lim (bs s) r) ∧ w = w' := by
  go_enter Try.func18, Try.ntmps18
  go_wp2
  go_loopw [5, 6] (fun n i wr => LongRel s lim w n i wr) (fun _ i _ => s.size - (intOf i).toNat)
  case atStart => exact ⟨0, Nat.zero_le _, rfl, rfl, fits_nil lim, rfl⟩
  case round =>
    obtain ⟨k, hk, rfl, rfl, hf, rfl⟩ := hrel
    have HF := Lib.hid hf; clear hf
    have hol := opn_len ((bs s).take k)
    rw [take_len s k hk] at hol
    by_cases hlt : k < s.size
    · have hsn := take_snoc s k hlt
      cases hg : gapB s[k]
      · have HG := Lib.hid hg
        have HO : Hid (opn ((bs s).take (k + 1)) = opn ((bs s).take k) ++ [s[k]]) := Lib.hid (by rw [hsn, opn_more hg])
        obtain ⟨n, hn⟩ : ∃ n, n = (opn ((bs s).take k)).length := ⟨_, rfl⟩
        rw [← hn] at hol
        by_cases hfull : (n : Int) < (lim : Int)
        · have HR : Hid (fits lim ((bs s).take (k + 1))) := Lib.hid (by rw [hsn]; exact fits_more HF.out hg (by show (opn ((bs s).take k)).length < lim; omega))
          have HN := Lib.hid hn
          rw [← hn]
          clear hsn hg hn
          go_wp2_with (go_at_call 23; refine (rgap_no _ _ HG.out).mono ?_; rintro e w' ⟨rfl, rfl⟩)
          go_roundw
          case rel => exact ⟨k + 1, hlt, rfl, by rw [HO.out, List.length_append, ← HN.out]; rfl, HR.out, rfl⟩
          case measure => simp [intOf]; omega
        · have HR : Hid (longAt lim (bs s) k) := Lib.hid (by
            refine ⟨by rw [size_toList]; exact hlt, HF.out, fun hf => ?_⟩
            have := hf ((bs s).take (k + 1)).length (Nat.le_refl _)
            rw [List.take_of_length_le (Nat.le_refl _), HO.out, List.length_append] at this
            simp at this; omega)
          have HN := Lib.hid hn
          rw [← hn]
          clear hsn hg hn
          go_wp2_with (go_at_call 23; refine (rgap_no _ _ HG.out).mono ?_; rintro e w' ⟨rfl, rfl⟩)
          go_ret
          exact ⟨⟨_, rfl, .inr ⟨k, rfl, HR.out⟩⟩, rfl⟩
      · have HG := Lib.hid hg
        have HR : Hid (fits lim ((bs s).take (k + 1))) := Lib.hid (by rw [hsn]; exact fits_gap HF.out hg)
        have HO : Hid (opn ((bs s).take (k + 1)) = []) := Lib.hid (by rw [hsn, opn_gap hg])
        clear hsn hg
        go_wp2_with (go_at_call 23; refine (rgap_yes _ _ HG.out).mono ?_; rintro e w' ⟨rfl, rfl⟩)
        go_roundw
        case rel => exact ⟨k + 1, hlt, rfl, by rw [HO.out]; rfl, HR.out, rfl⟩
        case measure => simp [intOf]; omega
    · go_wp2_with fail
      go_ret
      refine ⟨⟨_, rfl, .inl ⟨rfl, ?_⟩⟩, rfl⟩
      have := HF.out
      rwa [take_all s k (by omega)] at this
theorem opn_last {l : List UInt8} {n : Nat} (hn : n < l.length) : (n < (opn l).length → gapB (l[l.length - 1 - n]'(by omega)) = false) ∧ (n = (opn l).length → gapB (l[l.length - 1 - n]'(by omega)) = true) := by
  obtain ⟨p, h1, h2, h3⟩ := opn_split l
  have hlen := congrArg List.length h1
  rw [List.length_append] at hlen
  have hat : ∀ j : Nat, l[j]? = (p ++ opn l)[j]? := fun j => by rw [← h1]
  constructor
  · intro h
    have e := hat (l.length - 1 - n)
    rw [List.getElem?_append_right (by omega), List.getElem?_eq_getElem (by omega), List.getElem?_eq_getElem (by omega)] at e
    rw [Option.some.inj e]
    exact opn_plain l _ (List.getElem_mem _)
  · intro h
    have hp : 0 < p.length := by omega
    have e := hat (l.length - 1 - n)
    rw [List.getElem?_append_left (by omega), List.getElem?_eq_getElem (by omega), List.getElem?_eq_getElem (by omega)] at e
    rw [Option.some.inj e]
    have hi : l.length - 1 - n = p.length - 1 := by omega
    simp only [hi]
    cases hg : gapB (p[p.length - 1]'(by omega))
    · exfalso
      have hsp : p = p.take (p.length - 1) ++ [p[p.length - 1]'(by omega)] := by
        have := List.take_succ_eq_append_getElem (l := p) (i := p.length - 1) (by omega)
        rw [← this, List.take_of_length_le (by omega)]
      have h4 := opn_more (l := p.take (p.length - 1)) hg
      rw [← hsp, h2] at h4
      simp at h4
    · rfl
def OpenRel (s : ByteArray) (w : World) (n i : Value) (wr : World) : Prop :=
  ∃ k : Nat, k ≤ (opn (bs s)).length ∧ i = .int .i64 ((s.size : Int) - 1 - (k : Int)) ∧ n = .int .i64 (k : Int) ∧ wr = w
theorem refOpen_any (s : ByteArray) (w : World) (hs : s.size ≤ 1048576) :
    Calls Try.prog 19 #[.string s] w fun e w' => e = .returned (.int .i64 ((opn (bs s)).length : Int)) ∧ w = w' := by
  have hol := opn_len (bs s)
  rw [size_toList] at hol
  go_enter Try.func19, Try.ntmps19
  go_wp2
  go_loopw [3, 4] (fun n i wr => OpenRel s w n i wr) (fun _ i _ => (intOf i + 1).toNat)
  case atStart => exact ⟨0, Nat.zero_le _, by simp, rfl, rfl⟩
  case round =>
    obtain ⟨k, hk, rfl, rfl, rfl⟩ := hrel
    by_cases hlt : k < s.size
    · obtain ⟨j, hj⟩ : ∃ j : Nat, (s.size : Int) - 1 - (k : Int) = (j : Int) := ⟨s.size - 1 - k, by omega⟩
      have hjs : j < s.size := by omega
      have hx := opn_last (l := bs s) (n := k) (by rw [size_toList]; exact hlt)
      have hjj : (bs s).length - 1 - k = j := by rw [size_toList]; omega
      simp only [hjj] at hx
      have hsj : (bs s)[j]'(by rw [size_toList]; exact hjs) = s[j] := rfl
      rw [hsj] at hx
      have HJ := Lib.hid hj
      rw [hj]
      clear hjj hsj hj
      by_cases hmore : k < (opn (bs s)).length
      · have HG := Lib.hid (hx.1 hmore)
        clear hx
        go_wp2_with (go_at_call 23; refine (rgap_no _ _ HG.out).mono ?_; rintro e w' ⟨rfl, rfl⟩)
        go_roundw
        case rel => exact ⟨k + 1, hmore, by have := HJ.out; go_num, by go_num, rfl⟩
        case measure => simp [intOf]
      · have HG := Lib.hid (hx.2 (by omega))
        clear hx
        go_wp2_with (go_at_call 23; refine (rgap_yes _ _ HG.out).mono ?_; rintro e w' ⟨rfl, rfl⟩)
        go_ret
        exact ⟨retI (by omega), rfl⟩
    · have hneg : ¬ (0 : Int) ≤ (s.size : Int) - 1 - (k : Int) := by omega
      go_wp2_with fail
      go_ret
      exact ⟨retI (by omega), rfl⟩
theorem long_fits (s : ByteArray) (lim : Nat) (m : Int) (w : World) (hm : m = (lim : Int)) (hs : s.size ≤ 1048576) (hl : (lim : Int) ≤ 9223372036854775807) (h : fits lim (bs s)) :
    Calls Try.prog 18 #[.string s, .int .i64 m] w fun e w' => e = .returned (.int .i64 (-1)) ∧ w = w' := by
  subst hm
  refine (long_any s lim w hs hl).mono ?_
  rintro e w' ⟨⟨r, rfl, hr⟩, rfl⟩
  rcases hr with ⟨rfl, _⟩ | ⟨k, _, hk⟩
  · exact ⟨rfl, rfl⟩
  · exact absurd h (longAt_not hk)
theorem long_at (s : ByteArray) (lim k : Nat) (m : Int) (w : World) (hm : m = (lim : Int)) (hs : s.size ≤ 1048576) (hl : (lim : Int) ≤ 9223372036854775807) (h : longAt lim (bs s) k) :
    Calls Try.prog 18 #[.string s, .int .i64 m] w fun e w' => e = .returned (.int .i64 (k : Int)) ∧ w = w' := by
  subst hm
  refine (long_any s lim w hs hl).mono ?_
  rintro e w' ⟨⟨r, rfl, hr⟩, rfl⟩
  rcases hr with ⟨_, hf⟩ | ⟨k', rfl, hk⟩
  · exact absurd hf (longAt_not h)
  · rw [longAt_uniq hk h]; exact ⟨rfl, rfl⟩
theorem refOpen_as (s : ByteArray) (n : Nat) (w : World) (hs : s.size ≤ 1048576) (hn : n = (opn (bs s)).length) :
    Calls Try.prog 19 #[.string s] w fun e w' => e = .returned (.int .i64 (n : Int)) ∧ w = w' := by
  subst hn; exact refOpen_any s w hs
end Go.Proofs.Ytfajhjppbecjaaa
