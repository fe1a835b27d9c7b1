/- The walk of SplitFeeds. -/
import Derived.Test.YtkkpjbhnakbipaaPieces
import Derived.Test.YtkkpjbhnakbipaaCutsWalk
import Derived.Deep.Slices
namespace Go.Proofs.Ytkkpjbhnakbipaa
open Go.RowKit

theorem size24 (w : World) : (sizeOf (Try.prog.elem 24)).run Try.prog w = .ok 1 w := by
  obtain ⟨j0, hj, hy0, hy1, hy2⟩ := info_parts Try.info9
  have he : Try.prog.elem 24 = 9 := by kernel_rfl
  rw [he]
  simp [sizeOf, typeInfo, hj, hy1]
theorem elem24 : Try.prog.underlying 24 = some (.slice (Try.prog.elem 24)) := by kernel_rfl
theorem add_zero_any (a : Addr) : a.add 0 = a := by unfold Addr.add; split <;> simp_all
theorem add_add_any (a : Addr) (i j : Nat) : (a.add i).add j = a.add (i + j) := Deep.add_add a i j
/-- 'x[:k]' of a row of texts. -/
theorem slice_head (a : Option Addr) (len cap k : Nat) (K : Int) (hK : K = (k : Int)) (hk : k ≤ cap) : ∃ v, (∀ w, (Instr.slice 24 (.slice a len cap) none (some (.int .i64 K)) none).run Try.prog w = .ok v w) ∧
    ∀ w L, strsAt w (.slice a len cap) L → k ≤ L.length → strsAt w v (L.take k) := by
  subst hK
  refine ⟨sliced a 0 k cap 1, fun w => ?_, ?_⟩
  · rw [run_slice_h w 24 a len cap elem24 .i64 k (by omega) (by omega), size24]
    simp
  · rintro w L ⟨a', cap', e, hc⟩ hkL
    cases e
    unfold sliced
    refine ⟨_, cap - 0, by rw [List.length_take, Nat.min_eq_left hkL]; rfl, fun j hj => ?_⟩
    rw [List.length_take] at hj
    obtain ⟨ad, rfl, hcj⟩ := hc j (by omega)
    refine ⟨ad, ?_, ?_⟩
    · split <;> simp [add_zero_any]
    · rw [hcj]; simp
/-- 'x[l:]' of a row of texts. -/
theorem slice_tail (a : Option Addr) (len cap l : Nat) (hl : l ≤ len) (hc : len ≤ cap) : ∃ v, (∀ w, (Instr.slice 24 (.slice a len cap) (some (.int .i64 (l : Int))) none none).run Try.prog w = .ok v w) ∧
    ∀ w L, strsAt w (.slice a len cap) L → strsAt w v (L.drop l) := by
  refine ⟨sliced a l len cap 1, fun w => ?_, ?_⟩
  · rw [run_slice_l w 24 a len cap elem24 .i64 l (by omega) (by omega), size24]
    simp
  · rintro w L ⟨a', cap', e, hcL⟩
    cases e
    unfold sliced
    refine ⟨_, cap - l, by rw [List.length_drop], fun j hj => ?_⟩
    rw [List.length_drop] at hj
    obtain ⟨ad, rfl, hcj⟩ := hcL (l + j) (by omega)
    refine ⟨ad.add l, ?_, ?_⟩
    · rw [if_neg (by omega)]; simp
    · rw [add_add_any, hcj]; simp
/-- The text less its open word. -/
theorem cut_open (c : ByteArray) (n : Nat) (hn : n = (opn (bs c)).length) : ∃ d : ByteArray, (∀ w, (Instr.slice 9 (.string c) none (some (.int .i64 ((c.size : Int) - (n : Int)))) none).run Try.prog w = .ok (.string d) w) ∧ wordsL (bs d) = ended (bs c) ∧ d.size ≤ c.size := by
  have hle := opn_len (bs c)
  rw [size_toList] at hle
  have e1 : ((c.size : Int) - (n : Int)).toNat = c.size - n := by omega
  refine ⟨c.extract 0 (c.size - n), fun w => ?_, ?_, ?_⟩
  · rw [run_slice_string_h w 9 c Try.underlying9 .i64 ((c.size : Int) - (n : Int)) (by omega) (by omega), e1]
  · rw [extract_bs, List.drop_zero, Nat.sub_zero]
    show wordsL ((bs c).take (c.size - n)) = _
    have := ended_cut (bs c)
    rw [size_toList, ← hn] at this
    exact this
  · rw [ByteArray.size_extract]; omega
/-- The text up to place k. -/
theorem cut_head (c : ByteArray) (k : Nat) (hk : k ≤ c.size) : ∃ d : ByteArray, (∀ w, (Instr.slice 9 (.string c) none (some (.int .i64 (k : Int))) none).run Try.prog w = .ok (.string d) w) ∧ bs d = (bs c).take k := by
  refine ⟨c.extract 0 k, fun w => ?_, ?_⟩
  · rw [run_slice_string_h w 9 c Try.underlying9 .i64 k (by omega) (by omega)]; rfl
  · rw [extract_bs, List.drop_zero, Nat.sub_zero]

theorem long_ex {lim : Nat} {l : List UInt8} (h : ¬ fits lim l) : ∃ k, longAt lim l k := by
  induction l using snoc_ind with
  | h0 => exact absurd (fits_nil lim) h
  | h1 l c ih =>
    by_cases hl : fits lim l
    · refine ⟨l.length, by simp, ?_, ?_⟩
      · rw [List.take_append_of_le_length (Nat.le_refl _), List.take_of_length_le (Nat.le_refl _)]; exact hl
      · rw [List.take_of_length_le (by simp)]; exact h
    · obtain ⟨k, hk⟩ := ih hl
      exact ⟨k, longAt_append hk⟩
theorem long_ge {lim : Nat} {h l : List UInt8} {k : Nat} (hf : fits lim h) (hk : longAt lim (h ++ l) k) : h.length ≤ k := by
  by_cases hlt : h.length ≤ k
  · exact hlt
  · exfalso
    refine hk.2.2 ?_
    rw [List.take_append_of_le_length (by omega)]
    exact fits_append (b := h.drop (k + 1)) (by rw [List.take_append_drop]; exact hf)
theorem long_fits (s : ByteArray) (lim : Nat) (m : Int) (w : World) (hm : m = (lim : Int)) (hs : s.size ≤ 1048576) (hl : (lim : Int) ≤ 9223372036854775807) (h : fits lim (bs s)) :
    Calls Try.prog 16 #[.string s, .int .i64 m] w fun e w' => e = .returned (.int .i64 (-1)) ∧ w = w' := by
  subst hm
  refine (long_any s lim w hs hl).mono ?_
  rintro e w' ⟨⟨r, rfl, hr⟩, rfl⟩
  rcases hr with ⟨rfl, _⟩ | ⟨k, _, hk⟩
  · exact ⟨rfl, rfl⟩
  · exact absurd h (longAt_not hk)
theorem long_at (s : ByteArray) (lim k : Nat) (m : Int) (w : World) (hm : m = (lim : Int)) (hs : s.size ≤ 1048576) (hl : (lim : Int) ≤ 9223372036854775807) (h : longAt lim (bs s) k) :
    Calls Try.prog 16 #[.string s, .int .i64 m] w fun e w' => e = .returned (.int .i64 (k : Int)) ∧ w = w' := by
  subst hm
  refine (long_any s lim w hs hl).mono ?_
  rintro e w' ⟨⟨r, rfl, hr⟩, rfl⟩
  rcases hr with ⟨_, hf⟩ | ⟨k', rfl, hk⟩
  · exact absurd hf (longAt_not h)
  · rw [longAt_uniq hk h]; exact ⟨rfl, rfl⟩
theorem whole_as (v : Value) (L : List (List UInt8)) (s : ByteArray) (w : World) (hv : strsAt w v L) (hn : L.length ≤ 1048576) (hs : L.flatten.length ≤ 1048576) (h : bs s = L.flatten) :
    Calls Try.prog 15 #[v] w fun e w' => e = .returned (.string s) ∧ w = w' := by
  have := whole_any v L w hv hn hs
  rw [← h, ba_eq] at this
  exact this
theorem refWords_as (s : ByteArray) (L : List (List UInt8)) (w : World) (hs : s.size ≤ 1048576) (h : wordsL (bs s) = L) :
    Calls Try.prog 10 #[.string s] w fun e w' => ∃ r, e = .returned r ∧ ownS w' w.heap.size r L ∧ Below w.heap.size w w' := by
  rw [← h]; exact refWords_any s w hs
theorem feed_over (x : Value) (w : World) (base K lim k : Nat) (v : Value) (h l : List UInt8) (N : List (List UInt8)) (hS : Spl w base K lim v (opn h) false) (hf : fits lim h) (hL : longAt lim (h ++ l) k) (hN : ended ((h ++ l).take k) = ended h ++ N) (hx : bytesAt w x l) (hxv : x.ownBlock ≠ v.ownBlock) (hlen : h.length + l.length ≤ 1048576) :
    Calls Try.prog 17 #[.pointer (some ⟨K, 0, none⟩), x] w fun e w' => ∃ r v', e = .returned (.tuple #[r, .bool false]) ∧ ownS w' w.heap.size r N ∧ Spl w' base K lim v' [] true ∧ Kept (mine K v) w w' ∧ Moved v v' w.heap.size := by
  refine (feed_any x w base K lim v h l hS hf hx hxv hlen).mono ?_
  rintro e w3 ⟨r, N', b, v3, o, rfl, hres, hown3, hS3, hk3, hm3⟩
  rcases hres with ⟨_, hf2, _⟩ | ⟨rfl, rfl, k', hk', _, h3⟩
  · exact absurd hf2 (longAt_not hL)
  · rw [longAt_uniq hk' hL] at h3
    have : N' = N := List.append_cancel_left (h3.symm.trans hN)
    subst this
    exact ⟨r, v3, rfl, hown3, hS3, hk3, hm3⟩

/-- What the law has behind the first k pieces. -/
def FeedsRel (P : List (List UInt8)) (w : World) (K lim : Nat) (told i : Value) (wr : World) : Prop :=
  ∃ (k : Nat) (v : Value), k ≤ P.length ∧ i = .int .i64 (k : Int) ∧ Below w.heap.size w wr ∧
    ((fits lim (P.take k).flatten ∧ told = .int .i64 ((ended (P.take k).flatten).length : Int) ∧ Spl wr w.heap.size K lim v (opn (P.take k).flatten) false) ∨
     (¬ fits lim (P.take k).flatten ∧ Spl wr w.heap.size K lim v [] true))

theorem feedsRel_long {P : List (List UInt8)} {w wr w4 : World} {K lim k k0 : Nat} {v told : Value} {s : ByteArray} (hlt : k < P.length) (hs : bs s = (P.take (k + 1)).flatten) (hk0 : longAt lim (bs s) k0) (hS : Spl w4 w.heap.size K lim v [] true)
    (hbel : Below w.heap.size w wr) (hb4 : Below wr.heap.size wr w4) : FeedsRel P w K lim told (.int .i64 ((k + 1 : Nat) : Int)) w4 :=
  ⟨k + 1, v, hlt, rfl, hbel.trans (hb4.mono hbel.size), .inr ⟨by rw [← hs]; exact longAt_not hk0, hS⟩⟩

theorem feedsRel_fits {P : List (List UInt8)} {w w6 : World} {K lim k m : Nat} {v : Value} {s : ByteArray} (hlt : k < P.length) (hs : bs s = (P.take (k + 1)).flatten) (hf : fits lim (bs s)) (hm : m = (ended (bs s)).length)
    (hS : Spl w6 w.heap.size K lim v (opn (bs s)) false) (hbel : Below w.heap.size w w6) : FeedsRel P w K lim (.int .i64 (m : Int)) (.int .i64 ((k + 1 : Nat) : Int)) w6 :=
  ⟨k + 1, v, hlt, rfl, hbel, .inl ⟨by rw [← hs]; exact hf, by rw [← hs, hm], by rw [← hs]; exact hS⟩⟩
theorem feedsRel_over {P : List (List UInt8)} {w w6 : World} {K lim k k0 : Nat} {v told : Value} {s : ByteArray} (hlt : k < P.length) (hs : bs s = (P.take (k + 1)).flatten) (hk0 : longAt lim (bs s) k0)
    (hS : Spl w6 w.heap.size K lim v [] true) (hbel : Below w.heap.size w w6) : FeedsRel P w K lim told (.int .i64 ((k + 1 : Nat) : Int)) w6 :=
  ⟨k + 1, v, hlt, rfl, hbel, .inr ⟨by rw [← hs]; exact longAt_not hk0, hS⟩⟩
theorem refOpen_as (s : ByteArray) (n : Nat) (w : World) (hs : s.size ≤ 1048576) (hn : n = (opn (bs s)).length) :
    Calls Try.prog 20 #[.string s] w fun e w' => e = .returned (.int .i64 (n : Int)) ∧ w = w' := by
  subst hn; exact refOpen_any s w hs
theorem open_as (w : World) (base K lim n : Nat) (v : Value) (o : List UInt8) (b : Bool) (h : Spl w base K lim v o b) (hn : n = o.length) :
    Calls Try.prog 18 #[.pointer (some ⟨K, 0, none⟩)] w fun e w' => e = .returned (.int .i64 (n : Int)) ∧ w = w' := by
  subst hn; exact open_any w base K lim v o b h
theorem ownS.form3 {w : World} {b : Nat} {r : Value} {A : List (List UInt8)} (h : ownS w b r A) : ∃ a cap, r = .slice a A.length cap ∧ A.length ≤ cap := by
  rcases h.2 with ⟨rfl, h0⟩ | ⟨g, cap, cur, rfl, _, _, h1, _⟩
  · exact ⟨none, 0, by rw [h0], by omega⟩
  · exact ⟨_, cap, rfl, h1⟩

set_option maxRecDepth 100000 in
set_option maxHeartbeats 1000000 in
theorem splitFeeds_walk (x : Value) (a1 : Int) (P : List (List UInt8)) (w : World) (hx : strsAt w x P) (hcap : ∀ a n c, x = .slice a n c → n ≤ c) (hn : P.length ≤ 8796093022208) (w1 : (Lit.int .i64 a1).wf = true) :
    Calls Try.prog 4 #[x, .int .i64 a1] w fun e w' => e = .returned (.bool true) ∧ Below w.heap.size w w' := by
  obtain ⟨q0, q1⟩ := bounds_i64 w1
  clear w1
  have HX := Lib.hid hx
  obtain ⟨aP, cP, rfl, _⟩ := hx
  have hcP := hcap _ _ _ rfl
  clear hcap
  obtain ⟨lim, hlim⟩ : ∃ lim : Nat, (lim : Int) = max a1 1 := ⟨(max a1 1).toNat, by omega⟩
  have hlimI : (lim : Int) ≤ 9223372036854775807 := by omega
  have HL := Lib.hid hlim
  have hone : a1 < 1 ∧ (1 : Int) = (lim : Int) ∨ ¬ a1 < 1 ∧ a1 = (lim : Int) := by omega
  clear hlim
  rcases hone with ⟨hone, hm⟩ | ⟨hone, hm⟩
  all_goals
    have HM := Lib.hid hm
    have HLI := Lib.hid hlimI
    clear hm hlimI
    go_enter Try.func4, Try.ntmps4
    go_wp2_with fail
    refine (awake_any _).mono ?_
    rintro e w1 ⟨rfl, hb1⟩
    have z1 := hb1.size
    go_wp2_with fail
    refine (great_any _ P _ (HX.out.below hb1) hn).mono ?_
    rintro e w2 ⟨⟨b, rfl, hb⟩, rfl⟩
    cases b
    · obtain ⟨hP1, hP2⟩ := hb rfl
      clear hb
      have HP2 := Lib.hid hP2; clear hP2
      go_wp2_with fail
      refine (new_any _ lim _ (by omega) (by omega) HL.out).mono ?_
      rintro e w3 ⟨rfl, hw3⟩
      have hS3 : Spl w3 w.heap.size w1.heap.size lim (.slice none 0 0) [] false := by rw [hw3]; exact new_spl w1 _ lim z1
      have hb3 : Below w.heap.size w w3 := by rw [hw3]; exact hb1.alloc z1 _
      have HS3 := Lib.hid hS3
      clear hw3 hS3
      go_wp2

      go_loopw [7, 8] (fun told i wr => FeedsRel P w w1.heap.size lim told i wr) (fun _ i _ => P.length - (intOf i).toNat)
      case atStart => exact ⟨0, _, Nat.zero_le _, rfl, hb3, .inl ⟨fits_nil lim, rfl, HS3.out⟩⟩
      case round =>
        obtain ⟨k, v, hk, rfl, hbel, hcase⟩ := hrel
        have HCS := Lib.hid hcase
        clear hcase
        by_cases hlt : k < P.length
        · have hPr : strsAt wr (.slice aP P.length cP) P := HX.out.below (hbel.mono (Nat.le_refl _))
          have HPR := Lib.hid hPr
          obtain ⟨aP', cP', e', hcl⟩ := hPr
          cases e'
          obtain ⟨ad, rfl, hcell⟩ := hcl k hlt
          unfold tx at hcell
          obtain ⟨pb, hpb⟩ : ∃ pb : ByteArray, pb = ⟨P[k].toArray⟩ := ⟨_, rfl⟩
          rw [← hpb] at hcell
          have hpbs : bs pb = P[k] := by rw [hpb]
          obtain ⟨v1, hsl1, hv1⟩ := slice_head (some ad) P.length cP (k + 1) ((k : Int) + 1) (by omega) (by omega)
          obtain ⟨v0, hsl0, hv0⟩ := slice_head (some ad) P.length cP k (k : Int) rfl (by omega)
          have HV1 := Lib.hid (hv1 wr P HPR.out hlt); have HV0 := Lib.hid (hv0 wr P HPR.out (by omega))
          obtain ⟨sb0, hs0⟩ : ∃ s : ByteArray, bs s = (P.take k).flatten := ⟨⟨(P.take k).flatten.toArray⟩, rfl⟩
          obtain ⟨sb1, hs1⟩ : ∃ s : ByteArray, bs s = (P.take (k + 1)).flatten := ⟨⟨(P.take (k + 1)).flatten.toArray⟩, rfl⟩
          have hs01 : bs sb1 = bs sb0 ++ bs pb := by rw [hs1, hs0, flat_next P hlt, hpbs]
          have hf0 := flat_le P k
          have hf1 := flat_le P (k + 1)
          have hz0 : sb0.size ≤ 3000 := by rw [← size_toList]; show (bs sb0).length ≤ _; rw [hs0]; have := HP2.out; omega
          have hz1 : sb1.size ≤ 3000 := by rw [← size_toList]; show (bs sb1).length ≤ _; rw [hs1]; have := HP2.out; omega
          have HZ01 : Hid ((bs sb0).length + (bs pb).length ≤ 1048576) := Lib.hid (by rw [← List.length_append, ← hs01, size_toList]; omega)
          have HT1 : Hid ((P.take (k + 1)).length ≤ 1048576 ∧ (P.take (k + 1)).flatten.length ≤ 1048576) := Lib.hid ⟨by rw [List.length_take]; omega, by have := HP2.out; omega⟩
          have HT0 : Hid ((P.take k).length ≤ 1048576 ∧ (P.take k).flatten.length ≤ 1048576) := Lib.hid ⟨by rw [List.length_take]; omega, by have := HP2.out; omega⟩
          obtain ⟨xb, w4, hcv, hxb, hxo, hb4, hz4⟩ := conv_bytes wr pb
          have HXB := Lib.hid hxb; have HXO := Lib.hid hxo
          have hcase := HCS.out
          rw [← hs0] at hcase
          have HS0 := Lib.hid hs0; have HS1 := Lib.hid hs1; have HS01 := Lib.hid hs01
          clear hcl hpb hpbs hv1 hv0 hs0 hs1 hs01 hf0 hf1 hxb hxo
          rcases hcase with ⟨hfit, rfl, hS⟩ | ⟨hnf, hS⟩
          · have HF := Lib.hid hfit; have HSP := Lib.hid hS
            clear hfit hS
            by_cases hfit1 : fits lim (bs sb1)
            · have HF1 := Lib.hid hfit1; clear hfit1
              obtain ⟨N, hN⟩ := ended_ext (bs sb0) (bs pb)
              obtain ⟨T, hT⟩ : ∃ T, T = (ended (bs sb0)).length := ⟨_, rfl⟩
              obtain ⟨M, hM⟩ : ∃ M, M = ended (bs sb1) := ⟨_, rfl⟩
              obtain ⟨n, hnn⟩ : ∃ n, n = (opn (bs sb1)).length := ⟨_, rfl⟩
              have hMN : M = ended (bs sb0) ++ N := by rw [hM, HS01.out, hN]
              have HD : Hid (M.drop T = N) := Lib.hid (by rw [hMN, hT]; simp)
              have hTM : T ≤ M.length := by rw [hMN, hT]; simp
              have hMl : M.length ≤ 3000 := by rw [hM]; have h1 := ended_len (bs sb1); rw [size_toList] at h1; omega
              have hNl : N.length ≤ 3000 := by rw [← HD.out, List.length_drop]; omega
              have hnl : n ≤ sb1.size := by rw [hnn]; have h1 := opn_len (bs sb1); rwa [size_toList] at h1
              obtain ⟨d, hsl2, hd1, hd2⟩ := cut_open sb1 n hnn
              have HD1 : Hid (wordsL (bs d) = M) := Lib.hid (by rw [hd1, hM])
              have HN := Lib.hid hN; have HT := Lib.hid hT; have HMM := Lib.hid hM; have HNN := Lib.hid hnn
              have hTMI : ¬ (M.length : Int) < (T : Int) := by omega
              rw [← hT]
              clear hN hT hM hnn hMN hd1
              go_wp2_with fail
              refine (whole_as v1 (P.take (k + 1)) sb1 _ HV1.out HT1.out.1 HT1.out.2 HS1.out).mono ?_
              rintro e w5 ⟨rfl, rfl⟩
              go_wp2_with fail
              refine (long_fits sb1 lim _ _ HM.out (by omega) HLI.out HF1.out).mono ?_
              rintro e w5 ⟨rfl, rfl⟩
              go_wp2_with fail
              refine (whole_as v0 (P.take k) sb0 _ HV0.out HT0.out.1 HT0.out.2 HS0.out).mono ?_
              rintro e w5 ⟨rfl, rfl⟩
              go_wp2_with fail
              refine (long_fits sb0 lim _ _ HM.out (by omega) HLI.out HF.out).mono ?_
              rintro e w5 ⟨rfl, rfl⟩
              go_wp2_with fail
              refine (feed_fits xb w4 w.heap.size w1.heap.size lim v (bs sb0) (bs pb) N (HSP.out.below hb4 (Nat.le_refl _)) (by rw [← HS01.out]; exact HF1.out) HN.out HXB.out (new_bytes_ne HSP.out HXO.out) HZ01.out).mono ?_
              rintro e w5 ⟨r5, v5, rfl, hown5, hS5, hk5, hm5⟩
              rw [← HS01.out] at hS5
              have HO5 := Lib.hid hown5; have HS5 := Lib.hid hS5; clear hown5 hS5
              go_wp2_with fail
              refine (refOpen_as sb1 n _ (by omega) HNN.out).mono ?_
              rintro e w6 ⟨rfl, rfl⟩
              go_wp2_with fail
              refine (refWords_as d M _ (by omega) HD1.out).mono ?_
              rintro e w6 ⟨r6, rfl, hown6, hb6⟩
              obtain ⟨a6, c6, rfl, hc6⟩ := hown6.form3
              obtain ⟨v7, hsl7, hv7⟩ := slice_tail a6 M.length c6 T hTM hc6
              have HV7 : Hid (strsAt w6 v7 N) := Lib.hid (by have h1 := hv7 w6 M hown6.reads; rwa [HD.out] at h1)
              have HR5 := Lib.hid (HO5.out.below hb6 (Nat.le_refl _)).reads
              have HS6 := Lib.hid (HS5.out.below hb6 (Nat.le_refl _))
              clear hown6 hv7
              go_wp2_with fail
              refine (texts_any _ _ N N _ HR5.out HV7.out (by omega)).mono ?_
              rintro e w7 ⟨rfl, nd, rfl⟩
              have hdd : decide (N = N) = true := decide_eq_true rfl
              rw [hdd]; clear hdd
              have HS7 : Hid (Spl (w6.drewN nd) w.heap.size w1.heap.size lim v5 (opn (bs sb1)) false) := HS6
              go_wp2_with (first
                | (go_at_call 18; refine (open_as _ _ _ _ n _ _ _ HS7.out HNN.out).mono ?_; rintro e w8 ⟨rfl, rfl⟩)
                | (go_at_call 20; refine (refOpen_as sb1 n _ (by omega) HNN.out).mono ?_; rintro e w8 ⟨rfl, rfl⟩))
              have hB : Below w.heap.size w (w6.drewN nd) := below_drewN' (by
                have b4 := hbel.trans (hb4.mono hbel.size)
                have b5 := Below.kept b4 hk5 HSP.out.mine_ge b4.size
                exact b5.trans (hb6.mono b5.size)) nd
              go_roundw
              case rel => exact feedsRel_fits hlt HS1.out HF1.out (by rw [HMM.out]) HS7.out hB
              case measure => simp [intOf]; omega
            · obtain ⟨kk, hkk⟩ := long_ex hfit1
              have hge := long_ge (l := bs pb) HF.out (by rw [← HS01.out]; exact hkk)
              have hkl := hkk.1
              rw [size_toList] at hkl hge
              obtain ⟨cb, hslc, hcb⟩ := cut_head sb1 kk (by omega)
              obtain ⟨N, hN⟩ := ended_ext (bs sb0) ((bs pb).take (kk - sb0.size))
              have hcb2 : bs cb = bs sb0 ++ (bs pb).take (kk - sb0.size) := by
                rw [hcb, HS01.out, List.take_append, List.take_of_length_le (by rw [size_toList]; omega), size_toList]
              have hcz : cb.size ≤ 3000 := by rw [← size_toList]; show (bs cb).length ≤ _; rw [hcb, List.length_take, size_toList]; omega
              obtain ⟨T, hT⟩ : ∃ T, T = (ended (bs sb0)).length := ⟨_, rfl⟩
              obtain ⟨M, hM⟩ : ∃ M, M = ended (bs cb) := ⟨_, rfl⟩
              obtain ⟨n, hnn⟩ : ∃ n, n = (opn (bs cb)).length := ⟨_, rfl⟩
              have hMN : M = ended (bs sb0) ++ N := by rw [hM, hcb2, hN]
              have HN : Hid (ended ((bs sb0 ++ bs pb).take kk) = ended (bs sb0) ++ N) := Lib.hid (by rw [← HS01.out, ← hcb, ← hM, hMN])
              have HD : Hid (M.drop T = N) := Lib.hid (by rw [hMN, hT]; simp)
              have hTM : T ≤ M.length := by rw [hMN, hT]; simp
              have hMl : M.length ≤ 3000 := by rw [hM]; have h1 := ended_len (bs cb); rw [size_toList] at h1; omega
              have hNl : N.length ≤ 3000 := by rw [← HD.out, List.length_drop]; omega
              have hnl : n ≤ cb.size := by rw [hnn]; have h1 := opn_len (bs cb); rwa [size_toList] at h1
              obtain ⟨d, hsl2, hd1, hd2⟩ := cut_open cb n hnn
              have HD1 : Hid (wordsL (bs d) = M) := Lib.hid (by rw [hd1, hM])
              have HT := Lib.hid hT; have HNN := Lib.hid hnn; have HK1 := Lib.hid hkk
              have hTMI : ¬ (M.length : Int) < (T : Int) := by omega
              rw [← hT]
              clear hN hT hM hnn hMN hd1 hfit1 hkk hcb hcb2 hge hkl
              go_wp2_with fail
              refine (whole_as v1 (P.take (k + 1)) sb1 _ HV1.out HT1.out.1 HT1.out.2 HS1.out).mono ?_
              rintro e w5 ⟨rfl, rfl⟩
              go_wp2_with fail
              refine (long_at sb1 lim kk _ _ HM.out (by omega) HLI.out HK1.out).mono ?_
              rintro e w5 ⟨rfl, rfl⟩
              go_wp2_with fail
              refine (whole_as v0 (P.take k) sb0 _ HV0.out HT0.out.1 HT0.out.2 HS0.out).mono ?_
              rintro e w5 ⟨rfl, rfl⟩
              go_wp2_with fail
              refine (long_fits sb0 lim _ _ HM.out (by omega) HLI.out HF.out).mono ?_
              rintro e w5 ⟨rfl, rfl⟩
              go_wp2_with fail
              refine (feed_over xb w4 w.heap.size w1.heap.size lim kk v (bs sb0) (bs pb) N (HSP.out.below hb4 (Nat.le_refl _)) HF.out (by rw [← HS01.out]; exact HK1.out) HN.out HXB.out (new_bytes_ne HSP.out HXO.out) HZ01.out).mono ?_
              rintro e w5 ⟨r5, v5, rfl, hown5, hS5, hk5, hm5⟩
              have HO5 := Lib.hid hown5; have HS5 := Lib.hid hS5; clear hown5 hS5
              go_wp2_with fail
              refine (refOpen_as cb n _ (by omega) HNN.out).mono ?_
              rintro e w6 ⟨rfl, rfl⟩
              go_wp2_with fail
              refine (refWords_as d M _ (by omega) HD1.out).mono ?_
              rintro e w6 ⟨r6, rfl, hown6, hb6⟩
              obtain ⟨a6, c6, rfl, hc6⟩ := hown6.form3
              obtain ⟨v7, hsl7, hv7⟩ := slice_tail a6 M.length c6 T hTM hc6
              have HV7 : Hid (strsAt w6 v7 N) := Lib.hid (by have h1 := hv7 w6 M hown6.reads; rwa [HD.out] at h1)
              have HR5 := Lib.hid (HO5.out.below hb6 (Nat.le_refl _)).reads
              have HS6 := Lib.hid (HS5.out.below hb6 (Nat.le_refl _))
              clear hown6 hv7
              go_wp2_with fail
              refine (texts_any _ _ N N _ HR5.out HV7.out (by omega)).mono ?_
              rintro e w7 ⟨rfl, nd, rfl⟩
              have hdd : decide (N = N) = true := decide_eq_true rfl
              rw [hdd]; clear hdd
              have HS7 : Hid (Spl (w6.drewN nd) w.heap.size w1.heap.size lim v5 [] true) := HS6
              go_wp2_with (go_at_call 18; refine (open_any _ _ _ _ _ _ _ HS7.out).mono ?_; rintro e w8 ⟨rfl, rfl⟩)
              have hB : Below w.heap.size w (w6.drewN nd) := below_drewN' (by
                have b4 := hbel.trans (hb4.mono hbel.size)
                have b5 := Below.kept b4 hk5 HSP.out.mine_ge b4.size
                exact b5.trans (hb6.mono b5.size)) nd
              go_roundw
              case rel => exact feedsRel_over hlt HS1.out HK1.out HS7.out hB
              case measure => simp [intOf]; omega
          · obtain ⟨k0, hk0⟩ := long_ex hnf
            have HK1 : Hid (longAt lim (bs sb1) k0) := Lib.hid (by rw [HS01.out]; exact longAt_append hk0)
            have HK0 := Lib.hid hk0
            have HS4 := Lib.hid (hS.below hb4 (Nat.le_refl _))
            clear hnf hS hk0
            go_wp2_with fail
            refine (whole_as v1 (P.take (k + 1)) sb1 _ HV1.out HT1.out.1 HT1.out.2 HS1.out).mono ?_
            rintro e w5 ⟨rfl, rfl⟩
            go_wp2_with fail
            refine (long_at sb1 lim k0 _ _ HM.out (by omega) HLI.out HK1.out).mono ?_
            rintro e w5 ⟨rfl, rfl⟩
            go_wp2_with fail
            refine (whole_as v0 (P.take k) sb0 _ HV0.out HT0.out.1 HT0.out.2 HS0.out).mono ?_
            rintro e w5 ⟨rfl, rfl⟩
            go_wp2_with fail
            refine (long_at sb0 lim k0 _ _ HM.out (by omega) HLI.out HK0.out).mono ?_
            rintro e w5 ⟨rfl, rfl⟩
            go_wp2_with fail
            refine (feed_long _ _ _ _ _ _ _ HS4.out).mono ?_
            rintro e w5 ⟨rfl, rfl⟩
            go_wp2_with (first
              | (go_at_call 18; refine (open_any _ _ _ _ _ _ _ HS4.out).mono ?_; rintro e w5 ⟨rfl, rfl⟩)
              | (go_at_call 19; refine (end_none _ _ _ _ _ _ HS4.out).mono ?_; rintro e w5 ⟨rfl, rfl⟩))
            go_roundw
            case rel => exact feedsRel_long hlt HS1.out HK1.out HS4.out hbel hb4
            case measure => simp [intOf]; omega
        · go_wp2_with fail
          go_ret
          exact ⟨rfl, hbel⟩
    · go_wp2
      go_ret
      exact ⟨rfl, hb1⟩
end Go.Proofs.Ytkkpjbhnakbipaa
