/- The contract of hex.Take. -/
import Derived.Test.YtoiboofdafgnfaaDec
import Derived.Lib.Hide
namespace Go.Proofs.Ytoiboofdafgnfaa
open Go.RowKit

/-- What holds behind pos bytes: all are digits; the pairs are read; a half above is open behind an odd one. -/
def TakeRel (s : ByteArray) (w : World) (K : Nat) (v a o : Value) (wr : World) : Prop :=
  ∃ (pos : Nat) (A : Int) (b : Bool), pos ≤ s.size ∧ (∀ j (hj : j < s.size), j < pos → dk s[j] = true) ∧ 0 ≤ A ∧ A ≤ 15 ∧ a = .int .i64 A ∧ (∀ hp : pos - 1 < s.size, pos % 2 = 1 → A = (dv s[pos - 1] : Int)) ∧
    o = .bool b ∧ (b = true → pos % 2 = 1) ∧ (b = false → pos % 2 = 0) ∧ wr.heap[K]? = some (.stringIter s pos) ∧ ownB wr w.heap.size 5 v (dec (s.data.toList.take (2 * (pos / 2)))) ∧ Below w.heap.size w wr

theorem digit_yes (c : Int) (w : World) (h0 : -2147483648 ≤ c) (h1 : c ≤ 2147483647) (h : isDig c = true) :
    Calls Try.prog 11 #[.int .i32 c] w fun e w' => e = .returned (.tuple #[.int .i64 (digVal c), .bool true]) ∧ w = w' :=
  (digit_any c w h0 h1).mono fun e w' ⟨he, hw⟩ => ⟨by rw [he, h], hw⟩
theorem digit_no (c : Int) (w : World) (h0 : -2147483648 ≤ c) (h1 : c ≤ 2147483647) (h : isDig c = false) :
    Calls Try.prog 11 #[.int .i32 c] w fun e w' => e = .returned (.tuple #[.int .i64 0, .bool false]) ∧ w = w' :=
  (digit_any c w h0 h1).mono fun e w' ⟨he, hw⟩ => ⟨by
    have hz : digVal c = 0 := by unfold isDig at h; unfold digVal; simp at h; split <;> (try split) <;> omega
    rw [he, h, hz], hw⟩

theorem or_join (A V : Int) (h0 : 0 ≤ A) (h1 : A ≤ 15) (h2 : 0 ≤ V) (h3 : V ≤ 15) : bits .or .i64 (A * 16) V % 256 = A * 16 + V := by
  rw [bits_join .i64 8 (by decide) (fun n a b => by rw [IntKind.wrap_i64]; omega) 4 (A * 16) V (by omega) (by omega) (by omega) h2 (by omega) (by omega)]
  omega

theorem take_open {s : ByteArray} {w wr : World} {K pos : Nat} {v : Value} (hp : pos < s.size) (hall : ∀ j (hj : j < s.size), j < pos → dk s[j] = true) (hd : dk s[pos] = true) (he : pos % 2 = 0)
    (hit : wr.heap[K]? = some (.stringIter s (pos + 1))) (hown : ownB wr w.heap.size 5 v (dec (s.data.toList.take (2 * (pos / 2))))) (hb : Below w.heap.size w wr) :
    TakeRel s w K v (.int .i64 (digVal (s[pos].toNat : Int))) (.bool true) wr := by
  have hvb := digVal_bd (s[pos].toNat : Int)
  refine ⟨pos + 1, _, true, by omega, fun j hj h => ?_, hvb.1, hvb.2, rfl, fun _ _ => by simp [dv_int], rfl, fun _ => by omega, by simp, hit, ?_, hb⟩
  · by_cases e : j = pos
    · subst e; exact hd
    · exact hall j hj (by omega)
  · rw [show (pos + 1) / 2 = pos / 2 from by omega]; exact hown
theorem take_shut {s : ByteArray} {w wr : World} {K pos : Nat} {v : Value} {A : Int} (hp : pos < s.size) (hall : ∀ j (hj : j < s.size), j < pos → dk s[j] = true) (hd : dk s[pos] = true) (ho : pos % 2 = 1)
    (hA : ∀ hp : pos - 1 < s.size, pos % 2 = 1 → A = (dv s[pos - 1] : Int))
    (hit : wr.heap[K]? = some (.stringIter s (pos + 1))) (hown : wr.ownsRow w.heap.size 5 1 v ((dec (s.data.toList.take (2 * (pos / 2)))).length + 1) (bcells (dec (s.data.toList.take (2 * (pos / 2)))) ++ [.int .u8 (A * 16 + digVal (s[pos].toNat : Int))])) (hb : Below w.heap.size w wr) :
    TakeRel s w K v (.int .i64 (digVal (s[pos].toNat : Int))) (.bool false) wr := by
  have hvb := digVal_bd (s[pos].toNat : Int)
  refine ⟨pos + 1, _, false, by omega, fun j hj h => ?_, hvb.1, hvb.2, rfl, fun _ h => by omega, rfl, by simp, fun _ => by omega, hit, ?_, hb⟩
  · by_cases e : j = pos
    · subst e; exact hd
    · exact hall j hj (by omega)
  · have e1 : 2 * ((pos + 1) / 2) = 2 * (pos / 2) + 1 + 1 := by omega
    have e2 : 2 * (pos / 2) = pos - 1 := by omega
    have e3 : s.data.toList.take (2 * ((pos + 1) / 2)) = s.data.toList.take (2 * (pos / 2)) ++ [s[pos - 1], s[pos]] := by
      rw [e1, take_snoc s _ (by omega), take_snoc s _ (by omega)]
      simp only [e2, show pos - 1 + 1 = pos from by omega, List.append_assoc, List.cons_append, List.nil_append]
    have e4 : dec (s.data.toList.take (2 * ((pos + 1) / 2))) = dec (s.data.toList.take (2 * (pos / 2))) ++ [UInt8.ofNat (16 * dv s[pos - 1] + dv s[pos])] := by
      rw [e3, dec_snoc2 _ _ _ (by rw [take_len s _ (by omega)]; omega)]
    unfold ownB
    rw [e4, List.length_append, bcells_append]
    have ha := dv_bd s[pos - 1]; have hb' := dv_bd s[pos]
    have e5 : bcells [UInt8.ofNat (16 * dv s[pos - 1] + dv s[pos])] = [.int .u8 (A * 16 + digVal (s[pos].toNat : Int))] := by
      have : (UInt8.ofNat (16 * dv s[pos - 1] + dv s[pos])).toNat = 16 * dv s[pos - 1] + dv s[pos] := by simp; omega
      have hA' := hA (by omega) ho
      simp only [bcells, List.map_cons, List.map_nil, this, dv_int]
      congr 2
      omega
    rw [e5]
    exact hown

set_option maxHeartbeats 1000000 in
theorem take_any (s : ByteArray) (w : World) (hs : s.size ≤ 1048576) :
    Calls Try.prog 8 #[.string s] w fun e w' => e = .returned (.tuple #[.string ⟨(takeT s.data.toList).toArray⟩, .bool (takeOk s.data.toList)]) ∧ Below w.heap.size w w' := by
  obtain ⟨i0, hi, hz0, hz1, hz2⟩ := info_parts Try.info5
  go_enter Try.func8, Try.ntmps8
  go_wp2_with (at_make; refine wpList_make_own _ rfl _ _ 31 rfl w.heap.size 5 i0 (.int .u8 0) 1 Try.underlying31 hi hz0 hz1 .i64 .i64 _ (s.size / 2) rfl rfl (by omega) (by rw [hz2]; omega) (by unfold maxLen; omega) (Nat.le_refl _) ?_; intro w1 hown hgr)
  have hw1 : Below w.heap.size w w1 := (Below.refl _ _).grown hgr (Nat.le_refl _) (by simp)
  have hK := hw1.size
  go_loopw [4, 5, 6] (fun v a o wr => TakeRel s w w1.heap.size v a o wr) (fun _ _ _ wr => s.size - wr.iterPos w1.heap.size)
  case atStart => exact ⟨0, 0, false, Nat.zero_le _, by omega, by omega, by omega, rfl, by simp, rfl, by simp, by simp, World.iter_heap _ _ _, World.ownsRow.alloc hown _, hw1.alloc hw1.size _⟩
  case round =>
    obtain ⟨pos, A, b, hpos, hall, hA0, hA1, rfl, hAv, rfl, hb1, hb0, hit, hownr, hbel⟩ := hrel
    have hdl : (dec (s.data.toList.take (2 * (pos / 2)))).length ≤ 1048576 := by rw [dec_len, List.length_take, Array.length_toList]; have : s.data.size = s.size := rfl; omega
    have hsz := hbel.size
    by_cases hp : pos < s.size
    · by_cases ha : s[pos].toNat < 128
      · have hnx : ∀ ty, (Instr.next (.pointer (some ⟨w1.heap.size, 0, none⟩)) true ty).run Try.prog wr = _ := fun ty => Lib.run_next_ascii_at wr w1.heap.size s pos ty hit hp ha
        have hit2 := Lib.iterAt_heap wr w1.heap.size s pos (pos + 1) hit
        have hown2 := own_iterAt hownr hit (pos + 1)
        have hbw2 := Lib.below_iterAt hbel (k := w1.heap.size) hK s (pos + 1)
        by_cases hd : dk s[pos] = true
        · have hvb := digVal_bd (s[pos].toNat : Int)
          cases b
          · have HA := Lib.hid hall; clear hall
            have HV := Lib.hid hAv; clear hAv
            have HD := Lib.hid hd; clear hd
            have HI := Lib.hid hit2; clear hit2
            have HI0 := Lib.hid hit; clear hit
            go_wp2_with (go_at_call 11; refine (digit_yes _ _ (by omega) (by omega) HD.out).mono ?_; rintro e w' ⟨rfl, rfl⟩)
            go_roundw
            case rel => exact take_open hp HA.out HD.out (hb0 trivial) HI.out hown2 hbw2
            case measure => rw [iterPos_of HI.out, iterPos_of HI0.out]; omega
          · have HA := Lib.hid hall; clear hall
            have HV := Lib.hid hAv; clear hAv
            have HD := Lib.hid hd; clear hd
            have HI := Lib.hid hit2; clear hit2
            have HI0 := Lib.hid hit; clear hit
            go_wp2_with (first | (go_at_call 11; refine (digit_yes _ _ (by omega) (by omega) HD.out).mono ?_; rintro e w' ⟨rfl, rfl⟩) | (at_builtin; refine wpList_append_lies _ rfl (.tmp 28) (.tmp 34) 31 rfl w.heap.size 5 i0 (.int .u8 0) 1 1 Try.underlying31 hi hz0 hz1 hz2 rfl (by decide) u4 _ (bcells (dec (s.data.toList.take (2 * (pos / 2))))) rfl (World.ownsRow.alloc hown2 _) _ 1 1 [.int .u8 _] rfl rfl (cell_one_new _ _ _) (by intro u hu; simp at hu; subst hu; rfl) (by decide) (by unfold maxLen; omega) (by omega) (Nat.le_trans hbw2.size (by simp)) _ rfl ?_; intro g cap w2 hown3 hgr3 hat3 hlt3))
            rw [or_join A _ hA0 hA1 hvb.1 hvb.2] at hown3
            have hO := take_shut (K := w1.heap.size) hp HA.out HD.out (hb1 trivial) HV.out (iter_grown hgr3 (iter_alloc _ HI.out) (own_iter_ne hown2 HI.out)) hown3 ((hbw2.alloc hbw2.size _).grown hgr3 (Nat.le_trans hbw2.size (by simp)) (ownB.block_ge hown2))
            have hM := iterPos_of (iter_grown hgr3 (iter_alloc _ HI.out) (own_iter_ne hown2 HI.out))
            go_roundw
            case rel => exact hO
            case measure => rw [hM, iterPos_of HI0.out]; omega
        · have hd' : dk s[pos] = false := by simpa using hd
          clear hd
          have HB := Lib.hid (takeOk_bad (l := s.data.toList) (k := pos) (by simpa using hp) hd')
          have HD := Lib.hid hd'; clear hd'
          have HA := Lib.hid hall; clear hall
          have HV := Lib.hid hAv; clear hAv
          have HI := Lib.hid hit2; clear hit2
          have HI0 := Lib.hid hit; clear hit
          go_wp2_with (go_at_call 11; refine (digit_no _ _ (by omega) (by omega) HD.out).mono ?_; rintro e w' ⟨rfl, rfl⟩)
          go_ret2
          exact ⟨ret_text2 (takeT_bad HB.out).symm HB.out.symm, hbw2⟩
      · have hnx : ∀ ty, (Instr.next (.pointer (some ⟨w1.heap.size, 0, none⟩)) true ty).run Try.prog wr = _ := fun ty => Lib.run_next_any_at wr w1.heap.size s pos ty hit hp
        have hbw2 := Lib.below_iterAt hbel (k := w1.heap.size) hK s (pos + (Utf8.decode s pos).2)
        have hd' : dk s[pos] = false := by unfold dk isDig; simp; omega
        have hhi := (decode_high s pos hp (by omega)).1
        have hle := decode_le s pos
        have hdc : isDig ((Utf8.decode s pos).1 : Int) = false := by unfold isDig; simp; omega
        have HB := Lib.hid (takeOk_bad (l := s.data.toList) (k := pos) (by simpa using hp) hd')
        have HD := Lib.hid hdc; clear hd' hdc
        have HA := Lib.hid hall; clear hall
        have HV := Lib.hid hAv; clear hAv
        have HI0 := Lib.hid hit; clear hit
        go_wp2_with (go_at_call 11; refine (digit_no _ _ (by omega) (by omega) HD.out).mono ?_; rintro e w' ⟨rfl, rfl⟩)
        go_ret2
        exact ⟨ret_text2 (takeT_bad HB.out).symm HB.out.symm, hbw2⟩
    · have hnx : ∀ ty, (Instr.next (.pointer (some ⟨w1.heap.size, 0, none⟩)) true ty).run Try.prog wr = _ := fun ty => Lib.run_next_end_at wr w1.heap.size s pos ty hit hp
      have hc := ownB.text (P := Try.prog) hownr 31 9 Try.underlying31 Try.underlying5 Try.underlying9
      have hps : pos = s.size := by omega
      subst hps
      have HA := Lib.hid hall; clear hall
      have HV := Lib.hid hAv; clear hAv
      have HI0 := Lib.hid hit; clear hit
      cases b
      · have hev := hb0 rfl
        have HO := Lib.hid (takeOk_all (l := s.data.toList) (by simpa using hev) (fun j hj => HA.out j (by simpa using hj) (by simpa using hj)))
        have HE : Hid (s.data.toList.take (2 * (s.size / 2)) = s.data.toList) := Lib.hid (put_all s _ (by omega))
        clear hb0 hb1 hev
        go_wp2
        go_ret2
        exact ⟨ret_text2 (by rw [HE.out, takeT_ok HO.out]) HO.out.symm, hbel⟩
      · have hod := hb1 rfl
        have HB := Lib.hid (takeOk_odd (l := s.data.toList) (by simpa using hod))
        clear hb0 hb1 hod
        go_wp2
        go_ret2
        exact ⟨ret_text2 (takeT_bad HB.out).symm HB.out.symm, hbel⟩
end Go.Proofs.Ytoiboofdafgnfaa
