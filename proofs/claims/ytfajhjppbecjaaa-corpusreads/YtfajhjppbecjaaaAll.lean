/- What a source is, and its words; the contract of corpus.handAll. -/
import Derived.Test.YtfajhjppbecjaaaHand
import Derived.Test.YtfajhjppbecjaaaIface
namespace Go.Proofs.Ytfajhjppbecjaaa
open Go.RowKit

/-- A source, the value P of the type T, its Next the function mth: where Q w S L holds it tells L, piece by piece, then er; S are its blocks. -/
structure Srcer (T : Nat) (P : Value) (mth er : Nat) (ms : World → Nat) (Q : World → (Nat → Prop) → List (List UInt8) → Prop) : Prop where
  lt : ∀ {w : World} {S : Nat → Prop} {L : List (List UInt8)}, Q w S L → ∀ k, S k → k < w.heap.size
  kept : ∀ {w w' : World} {S : Nat → Prop} {L : List (List UInt8)}, Q w S L → w.heap.size ≤ w'.heap.size → (∀ k, S k → w'.heap[k]? = w.heap[k]?) → Q w' S L
  len : ∀ {w : World} {S : Nat → Prop} {L : List (List UInt8)}, Q w S L → ms w = L.length
  enters : ∀ (args : Array Value) (w : World), (callFunc mth args).run Try.prog w = .ok (.enter mth args) w
  meth : ∀ (w : World), (method 185 T P "Next").run Try.prog w = .ok (mth, P) w
  fin : ∀ {w : World} {S : Nat → Prop}, Q w S [] → Calls Try.prog mth #[P] w fun e w' => e = .returned (.tuple #[.slice none 0 0, .bool false, .int .i64 (er : Int)]) ∧ ∃ n, w' = w.drewN n
  more : ∀ {w : World} {S : Nat → Prop} {p : List UInt8} {L : List (List UInt8)}, Q w S (p :: L) → Calls Try.prog mth #[P] w fun e w' => ∃ (c : Nat) (S' : Nat → Prop),
    e = .returned (.tuple #[.slice (some ⟨w.heap.size, 0, none⟩) p.length c, .bool true, .int .i64 0]) ∧ bytesAt w' (.slice (some ⟨w.heap.size, 0, none⟩) p.length c) p ∧ Q w' S' L ∧ Kept S w w' ∧ ∀ k, S' k → S k
/-- The words of a text whose end is er, and the cause c that ends them. -/
def WordsOf (lim er : Nat) (t : List UInt8) (W : List (List UInt8)) (c : Nat) : Prop :=
  (fits lim t ∧ c = er ∧ ((er = 0 ∧ W = ended t ++ endL (opn t)) ∨ (er ≠ 0 ∧ W = ended t))) ∨ ∃ k, longAt lim t k ∧ c = 4 ∧ W = ended (t.take k)
theorem wordsOf_ex (lim er : Nat) (t : List UInt8) : ∃ W c, WordsOf lim er t W c := by
  by_cases hf : fits lim t
  · by_cases he : er = 0
    · exact ⟨_, _, .inl ⟨hf, rfl, .inl ⟨he, rfl⟩⟩⟩
    · exact ⟨_, _, .inl ⟨hf, rfl, .inr ⟨he, rfl⟩⟩⟩
  · obtain ⟨k, hk⟩ := long_ex hf
    exact ⟨_, _, .inr ⟨k, hk, rfl, rfl⟩⟩
theorem wordsOf_uniq {lim er : Nat} {t : List UInt8} {W W' : List (List UInt8)} {c c' : Nat} (h : WordsOf lim er t W c) (h' : WordsOf lim er t W' c') : W = W' ∧ c = c' := by
  rcases h with ⟨hf, rfl, h⟩ | ⟨k, hk, rfl, rfl⟩ <;> rcases h' with ⟨hf', rfl, h'⟩ | ⟨k', hk', rfl, rfl⟩
  · rcases h with ⟨he, rfl⟩ | ⟨he, rfl⟩ <;> rcases h' with ⟨he', rfl⟩ | ⟨he', rfl⟩
    · exact ⟨rfl, rfl⟩
    · exact absurd he he'
    · exact absurd he' he
    · exact ⟨rfl, rfl⟩
  · exact absurd hf (longAt_not hk')
  · exact absurd hf' (longAt_not hk)
  · rw [longAt_uniq hk hk']; exact ⟨rfl, rfl⟩
/-- What was ended ahead stays ahead. -/
theorem wordsOf_ext (lim er : Nat) {a : List UInt8} (r : List UInt8) (hf : fits lim a) : ∃ W c N, WordsOf lim er (a ++ r) W c ∧ W = ended a ++ N := by
  obtain ⟨W, c, h⟩ := wordsOf_ex lim er (a ++ r)
  refine ⟨W, c, ?_⟩
  have h' := h
  rcases h' with ⟨hf', rfl, h'⟩ | ⟨k, hk, rfl, rfl⟩
  · obtain ⟨N, hN⟩ := ended_ext a r
    rcases h' with ⟨he, rfl⟩ | ⟨he, rfl⟩
    · exact ⟨N ++ endL (opn (a ++ r)), h, by rw [hN, List.append_assoc]⟩
    · exact ⟨N, h, hN⟩
  · have hle := long_ge hf hk
    rw [List.take_append] at h ⊢
    rw [List.take_of_length_le hle] at h ⊢
    obtain ⟨N, hN⟩ := ended_ext a (r.take (k - a.length))
    exact ⟨N, h, hN⟩
theorem wordsOf_long (er : Nat) {lim : Nat} {a : List UInt8} {k : Nat} (r : List UInt8) (hk : longAt lim a k) : WordsOf lim er (a ++ r) (ended (a.take k)) 4 := by
  refine .inr ⟨k, longAt_append hk, rfl, ?_⟩
  rw [List.take_append_of_le_length (Nat.le_of_lt hk.1)]
theorem wordsOf_len {lim er : Nat} {t : List UInt8} {W : List (List UInt8)} {c : Nat} (h : WordsOf lim er t W c) : W.length ≤ t.length := by
  rcases h with ⟨_, _, ⟨_, rfl⟩ | ⟨_, rfl⟩⟩ | ⟨k, hk, _, rfl⟩
  · exact wordsL_len t
  · exact ended_len t
  · have := ended_len (t.take k)
    rw [List.length_take] at this
    omega
/-- What handAll answers. -/
def AllRet (m lim er : Nat) (D : World → (Nat → Prop) → List (List UInt8) → Prop) (w : World) (SD : Nat → Prop) (b : Nat) (t : List UInt8) (e : Ending) (w' : World) : Prop :=
  ∃ (S' : Nat → Prop) (W : List (List UInt8)) (c n c' : Nat), e = .returned (.tuple #[.int .i64 (n : Int), .int .i64 (c' : Int)]) ∧ WordsOf lim er t W c ∧
    ((W.length ≤ m ∧ n = W.length ∧ c' = c) ∨ (m < W.length ∧ n = m + 1 ∧ c' = 0)) ∧ D w' S' (W.take n) ∧ Kept (fun k => SD k ∨ b ≤ k) w w' ∧ ∀ k, S' k → SD k ∨ b ≤ k
def AllRel (m lim : Nat) (D Q : World → (Nat → Prop) → List (List UInt8) → Prop) (w : World) (SD : Nat → Prop) (b K : Nat) (T : List (List UInt8)) (n : Value) (wr : World) : Prop :=
  ∃ (M R : List (List UInt8)) (v : Value) (S1 Q1 : Nat → Prop), T = M ++ R ∧ fits lim M.flatten ∧ (ended M.flatten).length ≤ m ∧ n = .int .i64 ((ended M.flatten).length : Int) ∧
    Spl wr b K lim v (opn M.flatten) false ∧ Q wr Q1 R ∧ D wr S1 (ended M.flatten) ∧ (∀ k, S1 k → ¬ Q1 k ∧ ¬ mine K v k) ∧ (∀ k, Q1 k → ¬ mine K v k) ∧
    (∀ k, S1 k → SD k ∨ b ≤ k) ∧ (∀ k, Q1 k → b ≤ k) ∧ Kept (fun k => SD k ∨ b ≤ k) w wr
theorem take_both (H N : List (List UInt8)) (n : Nat) : (H ++ N).take (H.length + n) = H ++ N.take n := by
  rw [List.take_append, List.take_of_length_le (Nat.le_add_right _ _), Nat.add_sub_cancel_left]
/-- The end, with an error. -/
theorem all_err {m lim er : Nat} {D : World → (Nat → Prop) → List (List UInt8) → Prop} {w wr : World} {SD S1 : Nat → Prop} {b : Nat} {t : List UInt8} (he : er ≠ 0) (hf : fits lim t) (hm : (ended t).length ≤ m)
    (hd : D wr S1 (ended t)) (hk : Kept (fun k => SD k ∨ b ≤ k) w wr) (hS : ∀ k, S1 k → SD k ∨ b ≤ k) :
    AllRet m lim er D w SD b t (.returned (.tuple #[.int .i64 ((ended t).length : Int), .int .i64 (er : Int)])) wr :=
  ⟨S1, ended t, er, (ended t).length, er, rfl, .inl ⟨hf, rfl, .inr ⟨he, rfl⟩⟩, .inl ⟨hm, rfl, rfl⟩, by rw [List.take_length]; exact hd, hk, hS⟩
/-- The end, without one. -/
theorem all_end {m lim : Nat} {D : World → (Nat → Prop) → List (List UInt8) → Prop} {w w3 : World} {SD S2 : Nat → Prop} {b n : Nat} {bb : Bool} {t : List UInt8} (hf : fits lim t)
    (hr : ((ended t).length + (endL (opn t)).length ≤ m ∧ n = (endL (opn t)).length ∧ bb = true) ∨ (m < (ended t).length + (endL (opn t)).length ∧ n = m + 1 - (ended t).length ∧ bb = false)) (hm : (ended t).length ≤ m)
    (hd : D w3 S2 (ended t ++ (endL (opn t)).take n)) (hk : Kept (fun k => SD k ∨ b ≤ k) w w3) (hS : ∀ k, S2 k → SD k ∨ b ≤ k) :
    AllRet m lim 0 D w SD b t (.returned (.tuple #[.int .i64 (((ended t).length : Int) + (n : Int)), .int .i64 0])) w3 := by
  refine ⟨S2, ended t ++ endL (opn t), 0, (ended t).length + n, 0, by simp, .inl ⟨hf, rfl, .inl ⟨rfl, rfl⟩⟩, ?_, by rw [take_both]; exact hd, hk, hS⟩
  rcases hr with ⟨h1, rfl, rfl⟩ | ⟨h1, rfl, rfl⟩
  · exact .inl ⟨by simpa using h1, by simp, rfl⟩
  · exact .inr ⟨by simpa using h1, by omega, rfl⟩
/-- The function tells false. -/
theorem all_stop {m lim er : Nat} {D : World → (Nat → Prop) → List (List UInt8) → Prop} {w w3 : World} {SD S2 : Nat → Prop} {b n : Nat} {h t : List UInt8} {N : List (List UInt8)}
    (hw : ∃ W c N', WordsOf lim er t W c ∧ W = ended h ++ N ++ N') (hm : (ended h).length ≤ m) (hlt : m < (ended h).length + N.length) (hn : n = m + 1 - (ended h).length)
    (hd : D w3 S2 (ended h ++ N.take n)) (hk : Kept (fun k => SD k ∨ b ≤ k) w w3) (hS : ∀ k, S2 k → SD k ∨ b ≤ k) :
    AllRet m lim er D w SD b t (.returned (.tuple #[.int .i64 (((ended h).length : Int) + (n : Int)), .int .i64 0])) w3 := by
  obtain ⟨W, c, N', hw, rfl⟩ := hw
  refine ⟨S2, _, c, (ended h).length + n, 0, by simp, hw, .inr ⟨by simp; omega, by omega, rfl⟩, ?_, hk, hS⟩
  rw [List.append_assoc, take_both, List.take_append_of_le_length (by omega)]
  exact hd
theorem all_long {m lim er : Nat} {D : World → (Nat → Prop) → List (List UInt8) → Prop} {w w3 : World} {SD S2 : Nat → Prop} {b : Nat} {h t : List UInt8} {N : List (List UInt8)}
    (hw : WordsOf lim er t (ended h ++ N) 4) (hle : (ended h).length + N.length ≤ m)
    (hd : D w3 S2 (ended h ++ N)) (hk : Kept (fun k => SD k ∨ b ≤ k) w w3) (hS : ∀ k, S2 k → SD k ∨ b ≤ k) :
    AllRet m lim er D w SD b t (.returned (.tuple #[.int .i64 (((ended h).length : Int) + (N.length : Int)), .int .i64 4])) w3 := by
  refine ⟨S2, _, 4, (ended h).length + N.length, 4, by simp, hw, .inl ⟨by simp; omega, by simp, rfl⟩, ?_, hk, hS⟩
  rw [take_both, List.take_length]; exact hd
theorem endL_len (o : List UInt8) : (endL o).length ≤ 1 := by unfold endL; split <;> simp
theorem within_more {SD S1 S2 : Nat → Prop} {b n : Nat} (hb : b ≤ n) (h1 : ∀ k, S1 k → SD k ∨ b ≤ k) (h2 : ∀ k, S2 k → S1 k ∨ n ≤ k) : ∀ k, S2 k → SD k ∨ b ≤ k := by
  intro k hk
  rcases h2 k hk with h | h
  · exact h1 k h
  · exact .inr (Nat.le_trans hb h)
set_option maxHeartbeats 1000000 in
theorem all_any (Ty : Nat) (P f : Value) (mth er m lim : Nat) (ms : World → Nat) (D Q : World → (Nat → Prop) → List (List UInt8) → Prop) (hQ : Srcer Ty P mth er ms Q) (hD : Doer f m D) (w : World) (SD SQ : Nat → Prop) (b K : Nat) (T : List (List UInt8))
    (hS : Spl w b K lim (.slice none 0 0) [] false) (hq : Q w SQ T) (hd : D w SD []) (hdis : ∀ k, SD k → ¬ SQ k ∧ k ≠ K) (hqk : ∀ k, SQ k → k ≠ K ∧ b ≤ k) (hl : T.flatten.length ≤ 1000000) :
    Calls Try.prog 21 #[.iface Ty P, .pointer (some ⟨K, 0, none⟩), f] w (AllRet m lim er D w SD b T.flatten) := by
  have hm := hQ.meth
  have em := hQ.enters
  have HS := Lib.hid hS; have HQ := Lib.hid hQ; have HD := Lib.hid hD
  have hst : AllRel m lim D Q w SD b K T (.int .i64 0) w := ⟨[], T, _, SD, SQ, rfl, fits_nil lim, Nat.zero_le _, rfl, hS, hq, hd, fun k hk => ⟨(hdis k hk).1, (by rintro (h | h); exact (hdis k hk).2 h; cases h)⟩,
    fun k hk => (by rintro (h | h); exact (hqk k hk).1 h; cases h), fun k hk => .inl hk, fun k hk => (hqk k hk).2, Kept.refl _ _⟩
  have HST := Lib.hid hst
  have HL := Lib.hid hl
  clear hS hQ hD hst hq hd hdis hqk hl
  go_enter Try.func21, Try.ntmps21
  go_wp2
  go_loopw [8] (fun n wr => AllRel m lim D Q w SD b K T n wr) (fun _ wr => ms wr)
  case atStart => exact HST.out
  case round =>
    obtain ⟨M, R, v, S1, Q1, hT, hfit, hmm, rfl, hsp, hqr, hdr, hd1, hd2, hs1, hq1, hk⟩ := hrel
    have HT := Lib.hid hT; have HF := Lib.hid hfit; have HSP := Lib.hid hsp; have HQR := Lib.hid hqr; have HDR := Lib.hid hdr; have HD1 := Lib.hid hd1; have HD2 := Lib.hid hd2; have HS1 := Lib.hid hs1; have HQ1 := Lib.hid hq1; have HK := Lib.hid hk
    have hlen : M.flatten.length ≤ 1000000 := by
      have := HL.out; rw [hT, List.flatten_append, List.length_append] at this; omega
    have hel := ended_len M.flatten
    have hol := opn_len M.flatten
    obtain ⟨A, hA⟩ : ∃ A, A = (ended M.flatten).length := ⟨_, rfl⟩
    rw [← hA] at hel hmm ⊢
    have HA := Lib.hid hA
    clear hT hfit hsp hqr hdr hd1 hd2 hs1 hq1 hk hA
    cases R with
    | nil =>
      go_wp2_with fail
      refine (HQ.out.fin HQR.out).mono ?_
      rintro _ w1 ⟨rfl, n, rfl⟩
      by_cases he : (er : Int) = 0
      · have HE : Hid (er = 0) := Lib.hid (by omega)
        have HSn : Hid (Spl (wr.drewN n) b K lim v (opn M.flatten) false) := Lib.hid (HSP.out.kept fun _ _ => rfl)
        have HDn : Hid (D (wr.drewN n) S1 (ended M.flatten)) := Lib.hid (HD.out.kept HDR.out (Nat.le_refl _) fun _ _ => rfl)
        go_wp2_with fail
        refine (end_any _ b K lim v (opn M.flatten) false HSn.out (by omega)).mono ?_
        rintro _ w2 ⟨r, v2, rfl, how2, hsp2, hvb2, hk2⟩
        have HO2 := Lib.hid how2; have HK2 := Lib.hid hk2
        have HDw : Hid (D w2 S1 (ended M.flatten)) := Lib.hid (HD.out.kept HDn.out hk2.size fun k hk => hk2.block k (HD.out.lt HDn.out k hk) (HD1.out k hk).2)
        have hel1 := endL_len (opn M.flatten)
        have HEL := Lib.hid hel1
        clear how2 hk2 hsp2 hvb2 hel1
        go_wp2_with fail
        refine (hand_any r f m D HD.out w2 S1 (ended M.flatten) (endL (opn M.flatten)) _ HDw.out (by rw [← HA.out]; exact hmm) HO2.out (fun g hg hS => by have h1 := (HO2.out.lt g hg).1; have h2 := HD.out.lt HDn.out g hS; omega) (by rw [← HA.out]; have := HEL.out; omega)).mono ?_
        rintro _ w3 ⟨S2, n2, b2, rfl, hres, hd3, hk3, hs3⟩
        have hn2 : n2 ≤ 1 := by have := HEL.out; rw [← HA.out] at hres; omega
        have HR := Lib.hid hres; have HD3 := Lib.hid hd3; have HK3 := Lib.hid hk3; have HS3 := Lib.hid hs3
        clear hres hd3 hk3 hs3
        go_wp2
        go_ret2
        have h1 : T.flatten = M.flatten := by rw [HT.out, List.append_nil]
        have hbz : b ≤ w2.heap.size := Nat.le_trans (Nat.le_of_lt (Nat.lt_of_le_of_lt HSn.out.1 HSn.out.lt)) HK2.out.size
        rw [h1, HE.out, HA.out]
        exact all_end HF.out HR.out (by rw [← HA.out]; exact hmm) HD3.out (((HK.out.drewN n).trans HK2.out fun i _ hi => .inr (HSn.out.mine_ge i hi)).trans HK3.out fun i _ hi => HS1.out i hi) (within_more hbz HS1.out HS3.out)
      · go_wp2
        go_ret2
        have h1 : T.flatten = M.flatten := by rw [HT.out, List.append_nil]
        rw [h1, HA.out]
        exact all_err (by omega) HF.out (by rw [← HA.out]; exact hmm) (HD.out.kept HDR.out (Nat.le_refl _) fun _ _ => rfl) (HK.out.drewN n) HS1.out
    | cons p R =>
      have hTf : T.flatten = (M.flatten ++ p) ++ R.flatten := by rw [HT.out]; simp
      have hlp : M.flatten.length + p.length ≤ 1000000 := by have := HL.out; rw [hTf] at this; simp only [List.length_append] at this; omega
      have HTF := Lib.hid hTf
      clear hTf
      go_wp2_with fail
      refine (HQ.out.more HQR.out).mono ?_
      rintro _ w1 ⟨c, Q2, rfl, hx, hq2, hk1, hqq⟩
      have HX := Lib.hid hx; have HQ2 := Lib.hid hq2; have HK1 := Lib.hid hk1; have HQQ := Lib.hid hqq
      have HSP1 : Hid (Spl w1 b K lim v (opn M.flatten) false) := Lib.hid (HSP.out.kept fun k hk => hk1.block k (HSP.out.mine_lt k hk) (fun hq => HD2.out k hq hk))
      have HDW1 : Hid (D w1 S1 (ended M.flatten)) := Lib.hid (HD.out.kept HDR.out hk1.size fun k hk => hk1.block k (HD.out.lt HDR.out k hk) (HD1.out k hk).1)
      have HXV : Hid ((Value.slice (some ⟨wr.heap.size, 0, none⟩) p.length c).ownBlock ≠ v.ownBlock) := Lib.hid (new_bytes_ne HSP.out rfl)
      clear hx hq2 hk1 hqq
      go_wp2_with fail
      refine (feed_any _ w1 b K lim v M.flatten p HSP1.out HF.out HX.out HXV.out (by omega)).mono ?_
      rintro _ w2 ⟨r, N, bb, v2, o, rfl, hres, how, hsp2, hk2, hmv⟩
      have HRES := Lib.hid hres; have HO := Lib.hid how; have HSP2 := Lib.hid hsp2; have HK2 := Lib.hid hk2; have HMV := Lib.hid hmv
      have HDW2 : Hid (D w2 S1 (ended M.flatten)) := Lib.hid (HD.out.kept HDW1.out hk2.size fun k hk => hk2.block k (HD.out.lt HDW1.out k hk) (HD1.out k hk).2)
      have HQ3 : Hid (Q w2 Q2 R) := Lib.hid (HQ.out.kept HQ2.out hk2.size fun k hk => hk2.block k (HQ.out.lt HQ2.out k hk) (HD2.out k (HQQ.out k hk)))
      have hNl : A + N.length ≤ 1000000 := by
        rcases hres with ⟨_, _, h, _⟩ | ⟨_, _, k, hk, _, h⟩
        · have h1 := congrArg List.length h; have h2 := ended_len (M.flatten ++ p); rw [List.length_append, ← HA.out] at h1; rw [List.length_append] at h2; omega
        · have h1 := congrArg List.length h; have h2 := ended_len ((M.flatten ++ p).take k); rw [List.length_append, ← HA.out] at h1; rw [List.length_take, List.length_append] at h2; omega
      clear hres how hsp2 hk2 hmv
      go_wp2_with fail
      refine (hand_any r f m D HD.out w2 S1 (ended M.flatten) N _ HDW2.out (by rw [← HA.out]; exact hmm) HO.out (fun g hg hS => by have h1 := (HO.out.lt g hg).1; have h2 := HD.out.lt HDW1.out g hS; omega) (by rw [← HA.out]; omega)).mono ?_
      rintro _ w3 ⟨S2, n2, b2, rfl, hh, hd3, hk3, hs3⟩
      have hn2 : n2 ≤ N.length := by rw [← HA.out] at hh; omega
      have HDW3 := Lib.hid hd3; have HK3 := Lib.hid hk3; have HS3 := Lib.hid hs3
      have hbz : b ≤ w2.heap.size := Nat.le_trans (Nat.le_of_lt (Nat.lt_of_le_of_lt HSP1.out.1 HSP1.out.lt)) HK2.out.size
      have HW : Hid (∀ k, S2 k → SD k ∨ b ≤ k) := Lib.hid (within_more hbz HS1.out hs3)
      have HKW : Hid (Kept (fun k => SD k ∨ b ≤ k) w w3) := Lib.hid (((HK.out.trans HK1.out fun i _ hi => .inr (HQ1.out i hi)).trans HK2.out fun i _ hi => .inr (HSP1.out.mine_ge i hi)).trans hk3 fun i _ hi => HS1.out i hi)
      clear hd3 hk3 hs3 hbz
      rcases hh with ⟨hle, hnn, rfl⟩ | ⟨hlt, hnn, rfl⟩
      · have HNN := Lib.hid hnn; have HLE := Lib.hid hle
        clear hnn hle
        cases bb
        · go_wp2
          go_ret2
          rcases HRES.out with ⟨h, _⟩ | ⟨_, _, k, hk, _, hN⟩
          · cases h
          · have hw := wordsOf_long er R.flatten hk
            rw [hN] at hw
            have hd4 := HDW3.out
            rw [HNN.out, List.take_length] at hd4
            rw [HTF.out, HA.out, HNN.out]
            exact all_long hw HLE.out hd4 HKW.out HW.out
        · have HQW3 : Hid (Q w3 Q2 R) := Lib.hid (HQ.out.kept HQ3.out HK3.out.size fun k hk => HK3.out.block k (HQ.out.lt HQ3.out k hk) (fun hs => (HD1.out k hs).1 (HQQ.out k hk)))
          go_wp2
          go_roundw
          case rel =>
            rcases HRES.out with ⟨_, hf2, hN, ho⟩ | ⟨h, _⟩
            · have hfl : (M ++ [p]).flatten = M.flatten ++ p := by simp
              have hd4 := HDW3.out
              rw [HNN.out, List.take_length] at hd4
              have hold : ∀ k, k < w1.heap.size → mine K v2 k → mine K v k := fun k hk h => mine_moved HMV.out hk h
              have hs1 : ∀ k, S1 k → ¬ mine K v2 k := fun k hk h => (HD1.out k hk).2 (hold k (HD.out.lt HDW1.out k hk) h)
              refine ⟨M ++ [p], R, v2, S2, Q2, by rw [HT.out]; simp, by rw [hfl]; exact hf2, by rw [hfl, hN, List.length_append]; exact HLE.out, by rw [hfl, hN, List.length_append, HA.out, HNN.out]; simp, ?_, HQW3.out, by rw [hfl, hN]; exact hd4, ?_, ?_, HW.out, fun k hk => HQ1.out k (HQQ.out k hk), HKW.out⟩
              · rw [hfl, ← ho]
                exact HSP2.out.kept fun k hk => HK3.out.block k (HSP2.out.mine_lt k hk) (fun hs => hs1 k hs hk)
              · intro k hk
                rcases HS3.out k hk with h | h
                · exact ⟨fun hq => (HD1.out k h).1 (HQQ.out k hq), hs1 k h⟩
                · exact ⟨fun hq => by have h1 := HQ.out.lt HQ2.out k hq; have h2 := HK2.out.size; omega, fun hq => by have h1 := HSP2.out.mine_lt k hq; omega⟩
              · intro k hk h
                exact HD2.out k (HQQ.out k hk) (hold k (HQ.out.lt HQ2.out k hk) h)
            · cases h
          case measure => rw [HQ.out.len HQW3.out, HQ.out.len HQR.out]; simp
      · have HNN := Lib.hid hnn; have HLT := Lib.hid hlt
        clear hnn hlt
        have HST2 : Hid (∃ W c N', WordsOf lim er T.flatten W c ∧ W = ended M.flatten ++ N ++ N') := Lib.hid (by
          rcases HRES.out with ⟨_, hf2, hN, ho⟩ | ⟨_, _, k, hk, _, hN⟩
          · obtain ⟨W, c, N', hw, hW⟩ := wordsOf_ext lim er R.flatten hf2
            exact ⟨W, c, N', by rw [HTF.out]; exact hw, by rw [hW, hN]⟩
          · have hw := wordsOf_long er R.flatten hk
            rw [hN] at hw
            exact ⟨_, 4, [], by rw [HTF.out]; exact hw, by simp⟩)
        cases bb <;> go_wp2 <;> go_ret2 <;> (rw [HA.out]; exact all_stop HST2.out (by rw [← HA.out]; exact hmm) HLT.out HNN.out HDW3.out HKW.out HW.out)
end Go.Proofs.Ytfajhjppbecjaaa
