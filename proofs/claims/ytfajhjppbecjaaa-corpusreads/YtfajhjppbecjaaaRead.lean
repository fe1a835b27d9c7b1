/- The contract of corpus.Read. -/
import Derived.Test.YtfajhjppbecjaaaEach
namespace Go.Proofs.Ytfajhjppbecjaaa
open Go.RowKit

set_option maxHeartbeats 800000 in
theorem read_src (Ty : Nat) (P : Value) (mth er lim : Nat) (ms : World → Nat) (Q : World → (Nat → Prop) → List (List UInt8) → Prop) (hQ : Srcer Ty P mth er ms Q) (n : Int) (w : World) (SQ : Nat → Prop) (b : Nat) (T W : List (List UInt8)) (c : Nat)
    (ha : ∀ w : World, (Instr.typeAssert (.iface Ty P) 20 52 true).run Try.prog w = .ok (.tuple #[.iface Ty P, .bool true]) w) (hn : n = (lim : Int)) (h0 : 1 ≤ lim) (h1 : lim ≤ 65536)
    (hq : Q w SQ T) (hqk : ∀ k, SQ k → b ≤ k) (hb : b ≤ w.heap.size) (hl : T.flatten.length ≤ 1000000) (hW : WordsOf lim er T.flatten W c) :
    Calls Try.prog 9 #[.iface Ty P, .int .i64 n] w (ReadRet W c w b) := by
  subst hn
  have HQ := Lib.hid hQ; have HQR := Lib.hid hq; have HQK := Lib.hid hqk; have HL := Lib.hid hl; have HW := Lib.hid hW
  clear hQ hq hqk hl hW
  go_enter Try.func9, Try.ntmps9
  go_wp2_with fail
  refine (each_src Ty P _ mth er 1048576 lim ms _ Q HQ.out (app_doer w.heap.size) lim _ (fun k => k = w.heap.size) SQ b T ha rfl h0 h1 (HQ.out.kept HQR.out (by simp) fun k hk => Below.heap_alloc _ _ _ (HQ.out.lt HQR.out k hk)) (appD_new w)
    (fun k hk hs => by have := HQ.out.lt HQR.out k hs; omega) HQK.out (by simp; omega) HL.out).mono ?_
  rintro _ w1 ⟨S', W', c1, n1, c2, rfl, hw, hr, hd, hk, hs⟩
  obtain ⟨rfl, rfl⟩ := wordsOf_uniq HW.out hw
  rcases hr with ⟨h2, rfl, hcc⟩ | ⟨h2, _⟩
  case inr => have := wordsOf_len hw; have := HL.out; omega
  subst hcc
  rw [List.take_length] at hd
  obtain ⟨v, rfl, hC, ho⟩ := hd
  have hc0 : w1.cell? ⟨w.heap.size, 0, none⟩ = some v := by rw [Lib.cell_of_heap hC]; rfl
  have HK : Hid (Kept (fun k => b ≤ k) w w1) := Lib.hid (((Kept.refl _ w).alloc _).trans hk fun i _ hi => by rcases hi with h | h; omega; exact h)
  have HO := Lib.hid ho
  clear hw h2 hC ho hk hs
  by_cases hc : (c2 : Int) = 0
  · obtain ⟨a, cap, rfl⟩ := HO.out.form2
    go_wp2
    go_ret2
    have : c2 = 0 := by omega
    subst this
    exact ⟨_, W, rfl, HO.out, .inl ⟨rfl, rfl⟩, HK.out⟩
  · go_wp2
    go_ret2
    exact ⟨_, [], rfl, World.ownsRow_nil _ _ _ _, .inr ⟨by omega, rfl⟩, HK.out⟩
end Go.Proofs.Ytfajhjppbecjaaa
