/- The contract of gluepotref02.Read. -/
import Derived.Test.YtkiicmfdhnlgoaaRead
import Derived.Test.YtkiicmfdhnlgoaaRefByte
namespace Go.Proofs.Ytkiicmfdhnlgoaa
open Go.RowKit

def RefReadRel (s : ByteArray) (w : World) (v i : Value) (wr : World) : Prop :=
  ∃ (k : Nat) (l : List UInt8), k ≤ s.size ∧ l.length ≤ k ∧ showL l = s.data.toList.take k ∧ i = .int .i64 (k : Int) ∧ ownB wr w.heap.size 5 v l ∧ Below w.heap.size w wr

theorem refByte_yes (r : Int) (w : World) (g : isSg r = true) :
    Calls Try.prog 8 #[.int .i64 r] w fun e w' => e = .returned (.tuple #[.int .u8 (by' r), .bool true]) ∧ ∃ n, w' = w.drewN n :=
  (refByte_any r w).mono fun e w' ⟨he, hw⟩ => ⟨by rw [he, g], hw⟩
theorem refByte_nay (r : Int) (w : World) (g : isSg r = false) :
    Calls Try.prog 8 #[.int .i64 r] w fun e w' => e = .returned (.tuple #[.int .u8 0, .bool false]) ∧ ∃ n, w' = w.drewN n :=
  (refByte_any r w).mono fun e w' ⟨he, hw⟩ => ⟨by rw [he, g, by_no g], hw⟩
theorem getD_at (s : ByteArray) (k : Nat) (h : k < s.size) : s.data.toList.getD k 0 = s[k] := by
  have h' : k < s.data.toList.length := by simpa using h
  rw [List.getD_eq_getElem?_getD, List.getElem?_eq_getElem h']
  rfl

theorem two_at {s : ByteArray} {k : Nat} (h : k < s.size) (h2 : k + 1 < s.size) (a : 194 ≤ s[k].toNat) (b : s[k].toNat ≤ 223) (c : 128 ≤ s[k + 1].toNat) (d : s[k + 1].toNat ≤ 191) :
    two s.data.toList k ∧ (twoV s.data.toList k : Int) = ((s[k].toNat : Int) - 192) * 64 + (s[k + 1].toNat : Int) - 128 := by
  have hz : s.data.toList.length = s.size := by rw [Array.length_toList]; rfl
  unfold two twoV
  rw [getD_at s k h, getD_at s (k + 1) h2]
  exact ⟨⟨a, b, by omega, c, d⟩, by omega⟩
theorem none_at {s : ByteArray} {k : Nat} {l : List UInt8} (hl : showL l = s.data.toList.take k) (h : k < s.size) (h0 : 128 ≤ s[k].toNat)
    (hn : s[k].toNat < 194 ∨ 223 < s[k].toNat ∨ s.size ≤ k + 1 ∨ (∃ h2 : k + 1 < s.size, s[k + 1].toNat < 128 ∨ 191 < s[k + 1].toNat)) : ∀ m, showL m ≠ s.data.toList := by
  have hz : s.data.toList.length = s.size := by rw [Array.length_toList]; rfl
  refine fail_two hl (by omega) (by rw [getD_at s k h]; exact h0) (.inl fun ht => ?_)
  obtain ⟨a, b, c, d, e⟩ := ht
  rw [getD_at s k h] at a b
  rw [getD_at s (k + 1) (by omega)] at d e
  rcases hn with hn | hn | hn | ⟨_, hn | hn⟩ <;> omega

def ReadRet (s : ByteArray) (w : World) (e : Ending) (w' : World) : Prop := ∃ l b, e = .returned (.tuple #[.string ⟨l.toArray⟩, .bool b]) ∧ ReadOf s l b ∧ Below w.heap.size w w'
set_option maxRecDepth 100000 in
set_option maxHeartbeats 1000000 in
theorem refRead_any (s : ByteArray) (w : World) (hs : s.size ≤ 1048576) :
    Calls Try.prog 15 #[.string s] w fun e w' => ReadRet s w e w' := by
  obtain ⟨i0, hi, hz0, hz1, hz2⟩ := info_parts Try.info5
  go_enter Try.func15, Try.ntmps15
  go_wp2
  go_loopw [4, 5] (fun v i wr => RefReadRel s w v i wr) (fun _ i _ => s.size - (intOf i).toNat)
  case atStart => exact ⟨0, [], Nat.zero_le _, Nat.le_refl _, rfl, rfl, World.ownsRow_nil _ _ _ _, Below.refl _ _⟩
  case round =>
    obtain ⟨k, l, hk, hll, hsh, rfl, hownr, hbel⟩ := hrel
    have hsz := hbel.size
    have HS := Lib.hid hsh; clear hsh
    by_cases hlt : k < s.size
    · have hL : Hid (k < s.data.toList.length) := Lib.hid (by simpa using hlt)
      have hg0 := getD_at s k hlt
      have hx0 : (0 : Int) ≤ (s[k].toNat : Int) := by omega
      have hx1 : (s[k].toNat : Int) ≤ 255 := by have := s[k].toNat_lt; omega
      by_cases ha : (s[k].toNat : Int) < 128
      · cases hd : isSg (s[k].toNat : Int)
        · have HN : Hid (∀ m, showL m ≠ s.data.toList) := Lib.hid (fail_one HS.out hL.out (by rw [hg0]; omega) (by rw [hg0]; exact hd))
          have HD := Lib.hid hd
          clear hd hg0
          go_wp2_with (go_at_call 8; refine (refByte_nay _ _ HD.out).mono ?_; rintro e w' ⟨rfl, n, rfl⟩)
          go_ret2
          exact ⟨[], false, rfl, .inr ⟨rfl, rfl, HN.out⟩, below_drewN hbel n⟩
        · have HY : Hid (showL (l ++ [byB s[k].toNat]) = s.data.toList.take (k + 1)) := Lib.hid (by have := ok_one HS.out hL.out (by rw [hg0]; omega) (by rw [hg0]; exact hd); rw [hg0] at this; exact this)
          have HD := Lib.hid hd
          clear hd hg0
          go_wp2_with fail
          refine (refByte_yes _ _ HD.out).mono ?_
          rintro e w' ⟨rfl, n, rfl⟩
          have hownq : (wr.drewN n).ownsRow w.heap.size 5 1 u4 _ _ := hownr
          have hbq := below_drewN hbel n
          go_wp2_with (at_builtin; refine wpList_append_lies _ rfl (.tmp 67) (.tmp 69) 35 rfl w.heap.size 5 i0 (.int .u8 0) 1 1 Try.underlying35 hi hz0 hz1 hz2 rfl (by decide) u4 _ (bcells l) rfl (World.ownsRow.alloc hownq _) _ 1 1 [.int .u8 _] rfl rfl (cell_one_new _ _ _) (by intro u hu; simp at hu; subst hu; rfl) (by decide) (by unfold maxLen; omega) (by omega) (Nat.le_trans hbq.size (by simp)) _ rfl ?_; intro g cap w2 hown3 hgr3 hat3 hlt3)
          have hO := own_sign hown3
          have hB := (hbq.alloc hbq.size _).grown hgr3 (Nat.le_trans hbq.size (by simp)) (ownB.block_ge hownr)
          go_roundw
          case rel => exact ⟨k + 1, _, hlt, by simp; omega, HY.out, by go_num, hO, hB⟩
          case measure => simp [intOf]; omega
      · clear hg0
        by_cases hA : (s[k].toNat : Int) < 194
        · have HN : Hid (∀ m, showL m ≠ s.data.toList) := Lib.hid (none_at HS.out hlt (by omega) (.inl (by omega)))
          go_wp2
          go_ret2
          exact ⟨[], false, rfl, .inr ⟨rfl, rfl, HN.out⟩, hbel⟩
        · by_cases hB : 223 < (s[k].toNat : Int)
          · have HN : Hid (∀ m, showL m ≠ s.data.toList) := Lib.hid (none_at HS.out hlt (by omega) (.inr (.inl (by omega))))
            go_wp2
            go_ret2
            exact ⟨[], false, rfl, .inr ⟨rfl, rfl, HN.out⟩, hbel⟩
          · by_cases hC : s.size ≤ k + 1
            · have HN : Hid (∀ m, showL m ≠ s.data.toList) := Lib.hid (none_at HS.out hlt (by omega) (.inr (.inr (.inl (by omega)))))
              go_wp2
              go_ret2
              exact ⟨[], false, rfl, .inr ⟨rfl, rfl, HN.out⟩, hbel⟩
            · have hC' : k + 1 < s.size := by omega
              have hy0 : (0 : Int) ≤ (s[k + 1].toNat : Int) := by omega
              have hy1 : (s[k + 1].toNat : Int) ≤ 255 := by have := s[k + 1].toNat_lt; omega
              by_cases hD : (s[k + 1].toNat : Int) < 128
              · have HN : Hid (∀ m, showL m ≠ s.data.toList) := Lib.hid (none_at HS.out hlt (by omega) (.inr (.inr (.inr ⟨hC', .inl (by omega)⟩))))
                go_wp2
                go_ret2
                exact ⟨[], false, rfl, .inr ⟨rfl, rfl, HN.out⟩, hbel⟩
              · by_cases hE : 191 < (s[k + 1].toNat : Int)
                · have HN : Hid (∀ m, showL m ≠ s.data.toList) := Lib.hid (none_at HS.out hlt (by omega) (.inr (.inr (.inr ⟨hC', .inr (by omega)⟩))))
                  go_wp2
                  go_ret2
                  exact ⟨[], false, rfl, .inr ⟨rfl, rfl, HN.out⟩, hbel⟩
                · obtain ⟨t1, t2⟩ := two_at hlt hC' (by omega) (by omega) (by omega) (by omega)
                  cases hd : isSg (twoV s.data.toList k : Int)
                  · have HN : Hid (∀ m, showL m ≠ s.data.toList) := Lib.hid (fail_two HS.out hL.out (by have := t1.1; omega) (.inr hd))
                    rw [t2] at hd
                    have HD := Lib.hid hd
                    clear hd t1 t2
                    go_wp2_with (go_at_call 8; refine (refByte_nay _ _ HD.out).mono ?_; rintro e w' ⟨rfl, n, rfl⟩)
                    go_ret2
                    exact ⟨[], false, rfl, .inr ⟨rfl, rfl, HN.out⟩, below_drewN hbel n⟩
                  · have HY := Lib.hid (ok_two HS.out t1 hd)
                    rw [t2] at hd
                    have HD := Lib.hid hd
                    have HT := Lib.hid t2
                    clear hd t1 t2
                    go_wp2_with fail
                    refine (refByte_yes _ _ HD.out).mono ?_
                    rintro e w' ⟨rfl, n, rfl⟩
                    have hownq : (wr.drewN n).ownsRow w.heap.size 5 1 u4 _ _ := hownr
                    have hbq := below_drewN hbel n
                    go_wp2_with (at_builtin; refine wpList_append_lies _ rfl (.tmp 67) (.tmp 69) 35 rfl w.heap.size 5 i0 (.int .u8 0) 1 1 Try.underlying35 hi hz0 hz1 hz2 rfl (by decide) u4 _ (bcells l) rfl (World.ownsRow.alloc hownq _) _ 1 1 [.int .u8 _] rfl rfl (cell_one_new _ _ _) (by intro u hu; simp at hu; subst hu; rfl) (by decide) (by unfold maxLen; omega) (by omega) (Nat.le_trans hbq.size (by simp)) _ rfl ?_; intro g cap w2 hown3 hgr3 hat3 hlt3)
                    rw [← HT.out] at hown3
                    have hO := own_sign hown3
                    have hB := (hbq.alloc hbq.size _).grown hgr3 (Nat.le_trans hbq.size (by simp)) (ownB.block_ge hownr)
                    go_roundw
                    case rel => exact ⟨k + 2, _, by omega, by simp; omega, HY.out, by go_num, hO, hB⟩
                    case measure => simp [intOf]; omega
    · have hc := ownB.text (P := Try.prog) hownr 35 9 Try.underlying35 Try.underlying5 Try.underlying9
      have HT : Hid (showL l = s.data.toList) := Lib.hid (by rw [HS.out, take_all s k (by omega)])
      go_wp2
      go_ret2
      exact ⟨l, true, rfl, .inl ⟨rfl, HT.out⟩, hbel⟩
end Go.Proofs.Ytkiicmfdhnlgoaa
