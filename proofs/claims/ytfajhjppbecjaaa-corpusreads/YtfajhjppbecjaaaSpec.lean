/- The document's answer for layer 5, and the contracts of corpus.Each, corpus.Read and of the reference by it. -/
import Derived.Test.YtfajhjppbecjaaaRead
import Derived.Test.YtfajhjppbecjaaaRefLong
import Derived.Test.YtfajhjppbecjaaaTold
import Derived.Test.YtfajhjppbecjaaaPieces
namespace Go.Proofs.Ytfajhjppbecjaaa
open Go.RowKit

/-- The words that are handed of the text t, whose source ends by er, and the error c. -/
def SpecOf (n : Int) (er : Nat) (t : List UInt8) (W : List (List UInt8)) (c : Nat) : Prop :=
  ((n < 1 ∨ 65536 < n) ∧ W = [] ∧ c = 2) ∨ ∃ lim : Nat, n = (lim : Int) ∧ 1 ≤ lim ∧ lim ≤ 65536 ∧ WordsOf lim er t W c
theorem specOf_ex (n : Int) (er : Nat) (t : List UInt8) : ∃ W c, SpecOf n er t W c := by
  by_cases h : n < 1 ∨ 65536 < n
  · exact ⟨_, _, .inl ⟨h, rfl, rfl⟩⟩
  · obtain ⟨W, c, hw⟩ := wordsOf_ex n.toNat er t
    exact ⟨W, c, .inr ⟨n.toNat, by omega, by omega, by omega, hw⟩⟩
theorem specOf_len {n : Int} {er : Nat} {t : List UInt8} {W : List (List UInt8)} {c : Nat} (h : SpecOf n er t W c) : W.length ≤ t.length := by
  rcases h with ⟨_, rfl, _⟩ | ⟨lim, _, _, _, hw⟩
  · exact Nat.zero_le _
  · exact wordsOf_len hw
theorem specOf_cause {n : Int} {er : Nat} {t : List UInt8} {W : List (List UInt8)} {c : Nat} (h : SpecOf n er t W c) : c = 2 ∨ c = er ∨ c = 4 := by
  rcases h with ⟨_, _, h⟩ | ⟨lim, _, _, _, ⟨_, h, _⟩ | ⟨_, _, h, _⟩⟩
  · exact .inl h
  · exact .inr (.inl h)
  · exact .inr (.inr h)
/-- What Each answers: of the words W and their cause c, with a function that tells true up to m words. -/
def EachRet (m : Nat) (D : World → (Nat → Prop) → List (List UInt8) → Prop) (W : List (List UInt8)) (c : Nat) (w : World) (SD : Nat → Prop) (b : Nat) (e : Ending) (w' : World) : Prop :=
  ∃ (S' : Nat → Prop) (n c' : Nat), e = .returned (.tuple #[.int .i64 (n : Int), .int .i64 (c' : Int)]) ∧ ((W.length ≤ m ∧ n = W.length ∧ c' = c) ∨ (m < W.length ∧ n = m + 1 ∧ c' = 0)) ∧
    D w' S' (W.take n) ∧ Kept (fun k => SD k ∨ b ≤ k) w w' ∧ ∀ k, S' k → SD k ∨ b ≤ k
theorem each_as (Ty : Nat) (P f : Value) (mth er m : Nat) (ms : World → Nat) (D Q : World → (Nat → Prop) → List (List UInt8) → Prop) (hQ : Srcer Ty P mth er ms Q) (hD : Doer f m D) (n : Int) (w : World) (SD SQ : Nat → Prop) (b : Nat) (T W : List (List UInt8)) (c : Nat)
    (hlo : -9223372036854775808 ≤ n) (hhi : n ≤ 9223372036854775807) (ha : ∀ w : World, (Instr.typeAssert (.iface Ty P) 20 52 true).run Try.prog w = .ok (.tuple #[.iface Ty P, .bool true]) w)
    (hq : Q w SQ T) (hd : D w SD []) (hdis : ∀ k, SD k → ¬ SQ k) (hqk : ∀ k, SQ k → b ≤ k) (hb : b ≤ w.heap.size) (hl : T.flatten.length ≤ 1000000) (hW : SpecOf n er T.flatten W c) :
    Calls Try.prog 12 #[.iface Ty P, .int .i64 n, f] w (EachRet m D W c w SD b) := by
  rcases hW with ⟨hbad, rfl, rfl⟩ | ⟨lim, hn, h0, h1, hw⟩
  · refine (each_low _ f n w hlo hhi hbad).mono ?_
    rintro _ w1 ⟨rfl, rfl⟩
    exact ⟨SD, 0, 2, rfl, .inl ⟨Nat.zero_le _, rfl, rfl⟩, hd, Kept.refl _ _, fun k hk => .inl hk⟩
  · refine (each_src Ty P f mth er m lim ms D Q hQ hD n w SD SQ b T ha hn h0 h1 hq hd hdis hqk hb hl).mono ?_
    rintro _ w1 ⟨S', W', c1, n1, c2, rfl, hw', hr, hd, hk, hs⟩
    obtain ⟨rfl, rfl⟩ := wordsOf_uniq hw hw'
    exact ⟨S', n1, c2, rfl, hr, hd, hk, hs⟩
theorem read_as (Ty : Nat) (P : Value) (mth er : Nat) (ms : World → Nat) (Q : World → (Nat → Prop) → List (List UInt8) → Prop) (hQ : Srcer Ty P mth er ms Q) (n : Int) (w : World) (SQ : Nat → Prop) (b : Nat) (T W : List (List UInt8)) (c : Nat)
    (hlo : -9223372036854775808 ≤ n) (hhi : n ≤ 9223372036854775807) (ha : ∀ w : World, (Instr.typeAssert (.iface Ty P) 20 52 true).run Try.prog w = .ok (.tuple #[.iface Ty P, .bool true]) w)
    (hq : Q w SQ T) (hqk : ∀ k, SQ k → b ≤ k) (hb : b ≤ w.heap.size) (hl : T.flatten.length ≤ 1000000) (hW : SpecOf n er T.flatten W c) :
    Calls Try.prog 9 #[.iface Ty P, .int .i64 n] w (ReadRet W c w b) := by
  rcases hW with ⟨hbad, rfl, rfl⟩ | ⟨lim, hn, h0, h1, hw⟩
  · refine (read_low _ n w hlo hhi hbad).mono ?_
    rintro _ w1 ⟨rfl, hb1⟩
    exact ⟨_, [], rfl, World.ownsRow_nil _ _ _ _, .inr ⟨by decide, rfl⟩, Kept.of_below hb1 (Nat.le_refl _)⟩
  · exact read_src Ty P mth er lim ms Q hQ n w SQ b T W c ha hn h0 h1 hq hqk hb hl hw
theorem read_script (n : Int) (w : World) (base K sz e c : Nat) (v : Value) (L W : List (List UInt8)) (hS : Scr w base K v sz e L)
    (hlo : -9223372036854775808 ≤ n) (hhi : n ≤ 9223372036854775807) (hl : L.flatten.length ≤ 1000000) (hW : SpecOf n e L.flatten W c) :
    Calls Try.prog 9 #[.iface 30 (.pointer (some ⟨K, 0, none⟩)), .int .i64 n] w (ReadRet W c w base) :=
  read_as 30 _ 45 e _ _ (scr_source base K sz e) n w (mineS K v) base L W c hlo hhi (Try.sourceScript _) ⟨v, rfl, hS⟩ hS.mine_ge (Nat.le_of_lt (Nat.lt_of_le_of_lt hS.1 hS.lt)) hl hW
theorem endL_flat (l : List UInt8) : (endL l).flatten = l := by
  unfold endL; split
  · rename_i h; rw [h]; rfl
  · simp
theorem read_plain (n : Int) (w : World) (K c : Nat) (t : ByteArray) (W : List (List UInt8)) (hP : Pln w K t)
    (hlo : -9223372036854775808 ≤ n) (hhi : n ≤ 9223372036854775807) (hl : t.size ≤ 1000000) (hW : SpecOf n 0 (bs t) W c) :
    Calls Try.prog 9 #[.iface 39 (.pointer (some ⟨K, 0, none⟩)), .int .i64 n] w (ReadRet W c w K) :=
  read_as 39 _ 47 0 _ _ (pln_source K) n w (fun k => k = K) K (endL (bs t)) W c hlo hhi (Try.sourcePlain _) ⟨rfl, t, hP, rfl⟩ (by rintro k rfl; exact Nat.le_refl _) (Nat.le_of_lt hP.lt) (by rw [endL_flat, bs_size]; exact hl) (by rw [endL_flat]; exact hW)
theorem each_script (f : Value) (m : Nat) (D : World → (Nat → Prop) → List (List UInt8) → Prop) (hD : Doer f m D) (n : Int) (w : World) (SD : Nat → Prop) (base K sz e c : Nat) (v : Value) (L W : List (List UInt8)) (hS : Scr w base K v sz e L)
    (hlo : -9223372036854775808 ≤ n) (hhi : n ≤ 9223372036854775807) (hd : D w SD []) (hdis : ∀ k, SD k → k < base) (hl : L.flatten.length ≤ 1000000) (hW : SpecOf n e L.flatten W c) :
    Calls Try.prog 12 #[.iface 30 (.pointer (some ⟨K, 0, none⟩)), .int .i64 n, f] w (EachRet m D W c w SD base) :=
  each_as 30 _ f 45 e m _ D _ (scr_source base K sz e) hD n w SD (mineS K v) base L W c hlo hhi (Try.sourceScript _) ⟨v, rfl, hS⟩ hd (fun k hk hs => by have h1 := hdis k hk; have h2 := hS.mine_ge k hs; omega) hS.mine_ge (Nat.le_of_lt (Nat.lt_of_le_of_lt hS.1 hS.lt)) hl hW
theorem each_plain (n : Int) (w : World) (K c : Nat) (t : ByteArray) (W : List (List UInt8)) (hP : Pln w K t)
    (hlo : -9223372036854775808 ≤ n) (hhi : n ≤ 9223372036854775807) (hl : t.size ≤ 1000000) (hW : SpecOf n 0 (bs t) W c) :
    Calls Try.prog 12 #[.iface 39 (.pointer (some ⟨K, 0, none⟩)), .int .i64 n, .nilFunc] w fun e w' => e = .returned (.tuple #[.int .i64 (W.length : Int), .int .i64 (c : Int)]) ∧ Kept (fun k => K ≤ k) w w' := by
  refine (each_as 39 _ .nilFunc 47 0 1048576 _ NoD _ (pln_source K) no_doer n w (fun _ => False) (fun k => k = K) K (endL (bs t)) W c hlo hhi (Try.sourcePlain _) ⟨rfl, t, hP, rfl⟩ rfl (fun _ h => h.elim) (by rintro k rfl; exact Nat.le_refl _) (Nat.le_of_lt hP.lt) (by rw [endL_flat, bs_size]; exact hl) (by rw [endL_flat]; exact hW)).mono ?_
  rintro _ w1 ⟨S', n1, c', rfl, hr, _, hk, _⟩
  have hlen := specOf_len hW
  rw [bs_size] at hlen
  rcases hr with ⟨_, rfl, rfl⟩ | ⟨h, _⟩
  · exact ⟨rfl, (Kept.refl _ w).trans hk fun i _ hi => by rcases hi with h | h; exact h.elim; exact h⟩
  · omega
/-! The reference. -/
def RefRet (W : List (List UInt8)) (c : Nat) (w : World) (e : Ending) (w' : World) : Prop :=
  ∃ r, e = .returned (.tuple #[r, .int .i64 (c : Int)]) ∧ ownS w' w.heap.size r W ∧ Below w.heap.size w w'
set_option maxHeartbeats 1000000 in
theorem refRead_as (x : Value) (f n : Int) (P W : List (List UInt8)) (c : Nat) (w : World) (hlo : -9223372036854775808 ≤ n) (hhi : n ≤ 9223372036854775807) (hx : strsAt w x P) (hn : P.length ≤ 1000) (hs : P.flatten.length ≤ 3000)
    (hW : SpecOf n (failing P f) (ahead P f).flatten W c) : Calls Try.prog 8 #[x, .int .i64 f, .int .i64 n] w (RefRet W c w) := by
  have HX := Lib.hid hx
  have hfl := ahead_flat P f
  clear hx
  rcases hW with ⟨hbad, rfl, rfl⟩ | ⟨lim, rfl, h0, h1, hw⟩
  · rcases hbad with hbad | hbad
    · go_enter Try.func8, Try.ntmps8
      go_wp2
      go_ret2
      exact ⟨_, rfl, World.ownsRow_nil _ _ _ _, Below.refl _ _⟩
    · go_enter Try.func8, Try.ntmps8
      go_wp2
      go_ret2
      exact ⟨_, rfl, World.ownsRow_nil _ _ _ _, Below.refl _ _⟩
  · obtain ⟨t, ht⟩ : ∃ t, t = (ahead P f).flatten := ⟨_, rfl⟩
    obtain ⟨T, hT⟩ : ∃ T, full (ahead P f) = T := ⟨_, rfl⟩
    obtain ⟨er, her⟩ : ∃ er, failing P f = er := ⟨_, rfl⟩
    have hTf : T.flatten = t := by rw [← hT, full_flat, ht]
    have hTl : T.length ≤ 1000 := by rw [← hT]; exact Nat.le_trans (full_len _) (Nat.le_trans (ahead_len P f) hn)
    rw [← ht] at hw hfl
    rw [her] at hw
    obtain ⟨s, hs0⟩ : ∃ s : ByteArray, bs s = t := ⟨⟨t.toArray⟩, rfl⟩
    have hsz : s.size ≤ 3000 := by rw [← bs_size, hs0]; omega
    rw [← hs0] at hw
    have HT := Lib.hid hT; have HER := Lib.hid her; have HS0 : Hid (bs s = T.flatten) := Lib.hid (hs0.trans hTf.symm)
    clear ht hT her hTf hs0 hfl
    rcases hw with ⟨hf, rfl, hE⟩ | ⟨k, hk, rfl, rfl⟩
    · have HF := Lib.hid hf
      clear hf
      rcases hE with ⟨rfl, rfl⟩ | ⟨hne, rfl⟩
      · go_enter Try.func8, Try.ntmps8
        go_wp2_with fail
        refine (told_as x f P w 0 T HER.out HT.out HX.out (by omega)).mono ?_
        rintro _ w1 ⟨r1, rfl, ho1, hb1⟩
        have HO1 := Lib.hid ho1; have HB1 := Lib.hid hb1
        clear ho1 hb1
        go_wp2_with fail
        refine (whole_as r1 T s w1 HO1.out.reads (by omega) (by rw [← HS0.out, bs_size]; omega) HS0.out).mono ?_
        rintro _ w2 ⟨rfl, rfl⟩
        go_wp2_with fail
        refine (long_fits s lim _ _ rfl (by omega) (by omega) HF.out).mono ?_
        rintro _ w2 ⟨rfl, rfl⟩
        go_wp2_with fail
        refine (refWords_as s _ _ (by omega) rfl).mono ?_
        rintro _ w2 ⟨r2, rfl, ho2, hb2⟩
        go_wp2
        go_ret2
        exact ⟨r2, rfl, ho2.mono HB1.out.size, HB1.out.trans (hb2.mono HB1.out.size)⟩
      · have hol := opn_len (bs s)
        rw [bs_size] at hol
        obtain ⟨n', hn'⟩ : ∃ n', n' = (opn (bs s)).length := ⟨_, rfl⟩
        rw [← hn'] at hol
        obtain ⟨d, hsl, hwd, hds⟩ := cut_open s n' hn'
        have HN := Lib.hid hn'; have HWD := Lib.hid hwd
        clear hn' hwd
        have hne' : ¬ (c : Int) = 0 := by omega
        clear hne
        go_enter Try.func8, Try.ntmps8
        go_wp2_with fail
        refine (told_as x f P w c T HER.out HT.out HX.out (by omega)).mono ?_
        rintro _ w1 ⟨r1, rfl, ho1, hb1⟩
        have HO1 := Lib.hid ho1; have HB1 := Lib.hid hb1
        clear ho1 hb1
        go_wp2_with fail
        refine (whole_as r1 T s w1 HO1.out.reads (by omega) (by rw [← HS0.out, bs_size]; omega) HS0.out).mono ?_
        rintro _ w2 ⟨rfl, rfl⟩
        go_wp2_with fail
        refine (long_fits s lim _ _ rfl (by omega) (by omega) HF.out).mono ?_
        rintro _ w2 ⟨rfl, rfl⟩
        go_wp2_with fail
        refine (refOpen_as s n' _ (by omega) HN.out).mono ?_
        rintro _ w2 ⟨rfl, rfl⟩
        go_wp2_with fail
        refine (refWords_as d _ _ (by omega) HWD.out).mono ?_
        rintro _ w2 ⟨r2, rfl, ho2, hb2⟩
        go_wp2
        go_ret2
        exact ⟨r2, rfl, ho2.mono HB1.out.size, HB1.out.trans (hb2.mono HB1.out.size)⟩
    · have hks : k < s.size := by rw [← bs_size]; exact hk.1
      obtain ⟨s2, hsl2, hbs2⟩ := cut_head s k (by omega)
      have hs2 : s2.size ≤ s.size := by rw [← bs_size, ← bs_size s, hbs2, List.length_take]; omega
      have hol := opn_len (bs s2)
      rw [bs_size] at hol
      obtain ⟨n', hn'⟩ : ∃ n', n' = (opn (bs s2)).length := ⟨_, rfl⟩
      rw [← hn'] at hol
      obtain ⟨d, hsl, hwd, hds⟩ := cut_open s2 n' hn'
      rw [hbs2] at hwd
      have HN := Lib.hid hn'; have HWD := Lib.hid hwd; have HK := Lib.hid hk
      clear hn' hwd hk hbs2
      go_enter Try.func8, Try.ntmps8
      go_wp2_with fail
      refine (told_as x f P w er T HER.out HT.out HX.out (by omega)).mono ?_
      rintro _ w1 ⟨r1, rfl, ho1, hb1⟩
      have HO1 := Lib.hid ho1; have HB1 := Lib.hid hb1
      clear ho1 hb1
      go_wp2_with fail
      refine (whole_as r1 T s w1 HO1.out.reads (by omega) (by rw [← HS0.out, bs_size]; omega) HS0.out).mono ?_
      rintro _ w2 ⟨rfl, rfl⟩
      go_wp2_with fail
      refine (long_at s lim k _ _ rfl (by omega) (by omega) HK.out).mono ?_
      rintro _ w2 ⟨rfl, rfl⟩
      go_wp2_with fail
      refine (refOpen_as s2 n' _ (by omega) HN.out).mono ?_
      rintro _ w2 ⟨rfl, rfl⟩
      go_wp2_with fail
      refine (refWords_as d _ _ (by omega) HWD.out).mono ?_
      rintro _ w2 ⟨r2, rfl, ho2, hb2⟩
      go_wp2
      go_ret2
      exact ⟨r2, rfl, ho2.mono HB1.out.size, HB1.out.trans (hb2.mono HB1.out.size)⟩
end Go.Proofs.Ytfajhjppbecjaaa
