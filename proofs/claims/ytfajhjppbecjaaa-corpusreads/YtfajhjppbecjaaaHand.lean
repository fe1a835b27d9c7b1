/- What a function of words is; the contract of corpus.hand. -/
import Derived.Test.YtfajhjppbecjaaaFeed
namespace Go.Proofs.Ytfajhjppbecjaaa
open Go.RowKit

/-- A function of words, f: where D w S L holds, L was handed to it, and S are its blocks; it tells true up to m words. -/
structure Doer (f : Value) (m : Nat) (D : World → (Nat → Prop) → List (List UInt8) → Prop) : Prop where
  lt : ∀ {w : World} {S : Nat → Prop} {L : List (List UInt8)}, D w S L → ∀ k, S k → k < w.heap.size
  kept : ∀ {w w' : World} {S : Nat → Prop} {L : List (List UInt8)}, D w S L → w.heap.size ≤ w'.heap.size → (∀ k, S k → w'.heap[k]? = w.heap[k]?) → D w' S L
  call : (f = .nilFunc ∧ 1048576 ≤ m ∧ ∀ (w : World) (S : Nat → Prop) (L : List (List UInt8)) (o : List UInt8), D w S L → D w S (L ++ [o])) ∨
    ∃ (g : Nat) (lb : Array Value), f = .func (.func g) #[] lb ∧ (∀ (args : Array Value) (w : World), (callFunc g args).run Try.prog w = .ok (.enter g args) w) ∧
      ∀ (w : World) (S : Nat → Prop) (L : List (List UInt8)) (o : List UInt8), D w S L → L.length < 1048576 → Calls Try.prog g (#[tx o] ++ lb) w fun e w' =>
        ∃ S', e = .returned (.bool (decide (L.length + 1 ≤ m))) ∧ D w' S' (L ++ [o]) ∧ Kept S w w' ∧ ∀ k, S' k → S k ∨ w.heap.size ≤ k
/-- How many of N are handed behind H, and whether there may be more. -/
def HandRet (m : Nat) (D : World → (Nat → Prop) → List (List UInt8) → Prop) (w : World) (S : Nat → Prop) (H N : List (List UInt8)) (e : Ending) (w' : World) : Prop :=
  ∃ (S' : Nat → Prop) (n : Nat) (b : Bool), e = .returned (.tuple #[.int .i64 (n : Int), .bool b]) ∧ ((H.length + N.length ≤ m ∧ n = N.length ∧ b = true) ∨ (m < H.length + N.length ∧ n = m + 1 - H.length ∧ b = false)) ∧
    D w' S' (H ++ N.take n) ∧ Kept S w w' ∧ ∀ k, S' k → S k ∨ w.heap.size ≤ k
def HandRel (m : Nat) (D : World → (Nat → Prop) → List (List UInt8) → Prop) (w : World) (S : Nat → Prop) (H N : List (List UInt8)) (i : Value) (wr : World) : Prop :=
  ∃ (k : Nat) (S' : Nat → Prop), k ≤ N.length ∧ i = .int .i64 (k : Int) ∧ H.length + k ≤ m ∧ D wr S' (H ++ N.take k) ∧ Kept S w wr ∧ ∀ k, S' k → S k ∨ w.heap.size ≤ k
theorem take_more (N : List (List UInt8)) (H : List (List UInt8)) {k : Nat} (h : k < N.length) : H ++ N.take (k + 1) = (H ++ N.take k) ++ [N[k]] := by
  rw [List.take_succ_eq_append_getElem h, List.append_assoc]
theorem Kept.more {S S1 : Nat → Prop} {w a b : World} (h : Kept S w a) (k : Kept S1 a b) (hs : ∀ j, S1 j → S j ∨ w.heap.size ≤ j) : Kept S w b :=
  h.trans k fun i hi hS => by rcases hs i hS with h | h; exact h; omega
theorem more_within {S S1 S2 : Nat → Prop} {w a : World} (hz : w.heap.size ≤ a.heap.size) (h1 : ∀ j, S1 j → S j ∨ w.heap.size ≤ j) (h2 : ∀ j, S2 j → S1 j ∨ a.heap.size ≤ j) : ∀ j, S2 j → S j ∨ w.heap.size ≤ j := by
  intro j hj
  rcases h2 j hj with h | h
  · exact h1 j h
  · exact .inr (Nat.le_trans hz h)
theorem Try.isFunc (g : Nat) (lb : Array Value) (w : World) : (binOp BinOp.neq 35 (Value.func (Fn.func g) #[] lb) Value.nilFunc).run Try.prog w = .ok (.bool true) w := by kernel_rfl
theorem Try.noFunc (w : World) : (binOp BinOp.neq 35 Value.nilFunc Value.nilFunc).run Try.prog w = .ok (.bool false) w := by kernel_rfl
set_option maxHeartbeats 1000000 in
theorem hand_any (x f : Value) (m : Nat) (D : World → (Nat → Prop) → List (List UInt8) → Prop) (hD : Doer f m D) (w : World) (S : Nat → Prop) (H N : List (List UInt8)) (b : Nat)
    (h : D w S H) (hm : H.length ≤ m) (hx : ownS w b x N) (hxS : ∀ g, x.ownBlock = some g → ¬ S g) (hl : H.length + N.length ≤ 1048576) :
    Calls Try.prog 24 #[x, f] w (HandRet m D w S H N) := by
  have HD := Lib.hid hD
  have HH := Lib.hid h
  have HX := Lib.hid hx
  have HN := Lib.hid hxS
  obtain ⟨a, cap, hxe⟩ := hx.form2
  have HXE := Lib.hid hxe
  have hcall := hD.call
  clear hD h hx hxS hxe
  rcases hcall with ⟨rfl, hbig, hstep⟩ | ⟨g, lb, rfl, eg, hstep⟩
  · have HST := Lib.hid hstep
    have hnf := Try.noFunc
    clear hstep
    obtain rfl := HXE.out
    go_enter Try.func24, Try.ntmps24
    go_wp2
    go_loopw [10] (fun i wr => HandRel m D w S H N i wr) (fun i _ => N.length - (intOf i).toNat)
    case atStart => exact ⟨0, S, Nat.zero_le _, rfl, by omega, by simpa using HH.out, Kept.refl _ _, fun _ h => .inl h⟩
    case round =>
      obtain ⟨k, S1, hk, rfl, hkm, hd, hkept, hS1⟩ := hrel
      have HDR := Lib.hid hd
      clear hd
      by_cases hlt : k < N.length
      · have hown : ownS wr b (.slice a N.length cap) N := HX.out.kept fun g hg => hkept.block g (HX.out.lt g hg).2 (HN.out g hg)
        obtain ⟨a', c', he, hc⟩ := hown.reads
        cases he
        obtain ⟨ad, rfl, hcell⟩ := hc k hlt
        clear hown hc
        unfold tx at hcell
        go_wp2
        go_roundw
        case rel => exact ⟨k + 1, S1, hlt, by simp, by omega, by rw [take_more N H hlt]; exact HST.out _ _ _ _ HDR.out, hkept, hS1⟩
        case measure => simp [intOf]; omega
      · go_wp2
        go_ret2
        have hkn : k = N.length := by omega
        subst hkn
        exact ⟨S1, N.length, true, rfl, .inl ⟨hkm, rfl, rfl⟩, HDR.out, hkept, hS1⟩
  · have HST := Lib.hid hstep
    have hnf := Try.isFunc g lb
    clear hstep
    obtain rfl := HXE.out
    go_enter Try.func24, Try.ntmps24
    go_wp2
    go_loopw [10] (fun i wr => HandRel m D w S H N i wr) (fun i _ => N.length - (intOf i).toNat)
    case atStart => exact ⟨0, S, Nat.zero_le _, rfl, by omega, by simpa using HH.out, Kept.refl _ _, fun _ h => .inl h⟩
    case round =>
      obtain ⟨k, S1, hk, rfl, hkm, hd, hkept, hS1⟩ := hrel
      have HDR := Lib.hid hd
      clear hd
      by_cases hlt : k < N.length
      · have hown : ownS wr b (.slice a N.length cap) N := HX.out.kept fun g hg => hkept.block g (HX.out.lt g hg).2 (HN.out g hg)
        obtain ⟨a', c', he, hc⟩ := hown.reads
        cases he
        obtain ⟨ad, rfl, hcell⟩ := hc k hlt
        clear hown hc
        have hcell' : wr.cell? (ad.add k) = some (.string ⟨N[k].toArray⟩) := hcell
        clear hcell
        have HC := Lib.hid (HST.out wr S1 _ N[k] HDR.out (by rw [List.length_append, List.length_take]; omega))
        have hlen : (H ++ N.take k).length = H.length + k := by rw [List.length_append, List.length_take]; omega
        rw [hlen] at HC
        have HL := Lib.hid hlen; clear hlen
        by_cases hgo : H.length + k + 1 ≤ m
        · rw [decide_eq_true hgo] at HC
          go_wp2_with fail
          refine HC.out.mono ?_
          rintro _ w1 ⟨S2, rfl, hd2, hk2, hS2⟩
          go_wp2
          go_roundw
          case rel => exact ⟨k + 1, S2, hlt, by simp, by omega, by rw [take_more N H hlt]; exact hd2, hkept.more hk2 hS1, more_within hkept.size hS1 hS2⟩
          case measure => simp [intOf]; omega
        · rw [decide_eq_false hgo] at HC
          go_wp2_with fail
          refine HC.out.mono ?_
          rintro _ w1 ⟨S2, rfl, hd2, hk2, hS2⟩
          go_wp2
          go_ret2
          exact ⟨S2, k + 1, false, by simp, .inr ⟨by omega, by omega, rfl⟩, by rw [take_more N H hlt]; exact hd2, hkept.more hk2 hS1, more_within hkept.size hS1 hS2⟩
      · go_wp2
        go_ret2
        have hkn : k = N.length := by omega
        subst hkn
        exact ⟨S1, N.length, true, rfl, .inl ⟨hkm, rfl, rfl⟩, HDR.out, hkept, hS1⟩
end Go.Proofs.Ytfajhjppbecjaaa
