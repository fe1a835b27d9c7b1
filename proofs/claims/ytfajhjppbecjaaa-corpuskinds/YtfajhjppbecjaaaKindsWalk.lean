/- The walk of CorpusKinds. -/
import Derived.Test.YtfajhjppbecjaaaAwake
namespace Go.Proofs.Ytfajhjppbecjaaa
open Go.RowKit

/-- What is no source: the limit is told first. -/
def KindOf (n : Int) (c : Nat) : Prop := ((n < 1 ∨ 65536 < n) ∧ c = 2) ∨ (1 ≤ n ∧ n ≤ 65536 ∧ c = 11)
theorem read_kind (x : Value) (n : Int) (c : Nat) (w : World) (h0 : -9223372036854775808 ≤ n) (h1 : n ≤ 9223372036854775807) (hc : KindOf n c) (ha : ∀ w : World, (Instr.typeAssert x 20 52 true).run Try.prog w = .ok (.tuple #[.nilIface, .bool false]) w) :
    Calls Try.prog 9 #[x, .int .i64 n] w fun e w' => e = .returned (.tuple #[.slice none 0 0, .int .i64 (c : Int)]) ∧ Below w.heap.size w w' := by
  rcases hc with ⟨h, rfl⟩ | ⟨h, h', rfl⟩
  · exact read_low x n w h0 h1 h
  · exact read_none x n w h h' ha
theorem each_kind (x f : Value) (n : Int) (c : Nat) (w : World) (h0 : -9223372036854775808 ≤ n) (h1 : n ≤ 9223372036854775807) (hc : KindOf n c) (ha : ∀ w : World, (Instr.typeAssert x 20 52 true).run Try.prog w = .ok (.tuple #[.nilIface, .bool false]) w) :
    Calls Try.prog 12 #[x, .int .i64 n, f] w fun e w' => e = .returned (.tuple #[.int .i64 0, .int .i64 (c : Int)]) ∧ w = w' := by
  rcases hc with ⟨h, rfl⟩ | ⟨h, h', rfl⟩
  · exact each_low x f n w h0 h1 h
  · exact each_none x f n w h h' ha
theorem plain_spec (s : ByteArray) (h : s.size ≤ 65536) : SpecOf 65536 0 (bs s) (wordsL (bs s)) 0 :=
  .inr ⟨65536, rfl, by decide, by decide, .inl ⟨fits_all (by rw [bs_size]; exact h), rfl, .inl ⟨rfl, rfl⟩⟩⟩
set_option maxRecDepth 100000 in
set_option maxHeartbeats 1000000 in
theorem corpusKinds_walk (s : ByteArray) (n : Int) (w : World) (h0 : -9223372036854775808 ≤ n) (h1 : n ≤ 9223372036854775807) :
    Calls Try.prog 5 #[.string s, .int .i64 n] w fun e w' => e = .returned (.bool true) ∧ Below w.heap.size w w' := by
  by_cases hbig : (3000 : Int) < (s.size : Int)
  · go_enter Try.func5, Try.ntmps5
    go_wp2_with fail
    refine (awake_any _).mono ?_
    rintro _ w1 ⟨rfl, hb1⟩
    go_wp2
    go_ret
    exact ⟨rfl, hb1⟩
  · have hc : (n < 1 ∧ ∃ c : Nat, c = 2) ∨ (65536 < n ∧ 1 ≤ n) ∨ (1 ≤ n ∧ n ≤ 65536) := by
      by_cases h : n < 1
      · exact .inl ⟨h, _, rfl⟩
      · by_cases h' : 65536 < n
        · exact .inr (.inl ⟨h', by omega⟩)
        · exact .inr (.inr ⟨by omega, by omega⟩)
    have hwl := wordsL_len (bs s)
    rw [bs_size] at hwl
    rcases hc with ⟨h, _⟩ | ⟨h, h'⟩ | ⟨h, h'⟩
    case' inl => have HC : Hid (KindOf n 2) := Lib.hid (.inl ⟨.inl h, rfl⟩)
    case' inr.inl => have HC : Hid (KindOf n 2) := Lib.hid (.inl ⟨.inr h, rfl⟩)
    case' inr.inr => have HC : Hid (KindOf n 11) := Lib.hid (.inr ⟨h, h', rfl⟩)
    all_goals
      go_enter Try.func5, Try.ntmps5
      go_wp2_with fail
      refine (awake_any _).mono ?_
      rintro _ w1 ⟨rfl, hb1⟩
      go_wp2_with fail
      refine (read_kind _ n _ _ h0 h1 HC.out (Try.sourceText _)).mono ?_
      rintro _ w2 ⟨rfl, hb2⟩
      go_wp2_with fail
      refine (each_kind _ _ n _ _ h0 h1 HC.out Try.sourceNil).mono ?_
      rintro _ w3 ⟨rfl, rfl⟩
      go_wp2_with fail
      refine (each_plain 65536 _ _ 0 s _ (pln_new w2 s) (by decide) (by decide) (by omega) (plain_spec s (by omega))).mono ?_
      rintro _ w3 ⟨rfl, hk3⟩
      go_wp2_with fail
      refine (refWords_as s _ _ (by omega) rfl).mono ?_
      rintro _ w4 ⟨r4, rfl, ho4, hb4⟩
      obtain ⟨a4, c4, rfl⟩ := ho4.form2
      go_wp2
      go_ret
      refine ⟨rfl, ?_⟩
      have hB2 := hb1.trans (hb2.mono hb1.size)
      have hB3 := hB2.alloc hB2.size (.cells #[.string s] 41)
      have hB4 := Below.kept hB3 hk3 (fun i hi => Nat.le_trans hB2.size hi) hB3.size
      exact hB4.trans (hb4.mono hB4.size)
end Go.Proofs.Ytfajhjppbecjaaa
