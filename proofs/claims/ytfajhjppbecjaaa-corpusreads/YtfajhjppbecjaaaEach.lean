/- Scripts and plain texts as sources; functions that keep words; the contracts of corpus.Each and corpus.Read. -/
import Derived.Test.YtfajhjppbecjaaaAll
namespace Go.Proofs.Ytfajhjppbecjaaa
open Go.RowKit

/-! Sources. -/
def ScrQ (base K sz e : Nat) (w : World) (S : Nat → Prop) (L : List (List UInt8)) : Prop := ∃ v, S = mineS K v ∧ Scr w base K v sz e L
theorem Try.enterNext (args : Array Value) (w : World) : (callFunc 45 args).run Try.prog w = .ok (.enter 45 args) w := by kernel_rfl
theorem Try.enterPlain (args : Array Value) (w : World) : (callFunc 47 args).run Try.prog w = .ok (.enter 47 args) w := by kernel_rfl
theorem scr_source (base K sz e : Nat) : Srcer 30 (.pointer (some ⟨K, 0, none⟩)) 45 e (fun w => leftLen w K) (ScrQ base K sz e) where
  lt := by rintro w S L ⟨v, rfl, h⟩; exact h.mine_lt
  kept := by rintro w w' S L ⟨v, rfl, h⟩ hs hk; exact ⟨v, rfl, h.kept hs hk⟩
  len := by rintro w S L ⟨v, rfl, h⟩; exact h.left
  enters := Try.enterNext
  meth := Try.callNext _
  fin := by rintro w S ⟨v, rfl, h⟩; exact next_end w base K sz e v h
  more := by
    rintro w S p L ⟨v, rfl, h⟩
    refine (next_more w base K sz e v p L h).mono ?_
    rintro _ w1 ⟨c, v1, rfl, hb, _, hS, hk, hm⟩
    exact ⟨c, _, rfl, hb, ⟨v1, rfl, hS⟩, (Kept.refl _ _).trans hk fun i _ hi => .inl hi, hm⟩
def PlnQ (K : Nat) (w : World) (S : Nat → Prop) (L : List (List UInt8)) : Prop := S = (fun k => k = K) ∧ ∃ t, Pln w K t ∧ L = endL (bs t)
def oneLen (w : World) (K : Nat) : Nat := if textLen w K = 0 then 0 else 1
theorem pln_source (K : Nat) : Srcer 39 (.pointer (some ⟨K, 0, none⟩)) 47 0 (fun w => oneLen w K) (PlnQ K) where
  lt := by rintro w S L ⟨rfl, t, h, rfl⟩ k rfl; exact h.lt
  kept := by rintro w w' S L ⟨rfl, t, h, rfl⟩ hs hk; exact ⟨rfl, t, (hk K rfl).trans h, rfl⟩
  len := by
    rintro w S L ⟨rfl, t, h, rfl⟩
    unfold oneLen endL
    rw [h.left, ← bs_size]
    by_cases h0 : bs t = []
    · rw [h0]; rfl
    · rw [if_neg (by rw [List.length_eq_zero_iff]; exact h0), if_neg h0]; rfl
  enters := Try.enterPlain
  meth := Try.callPlain _
  fin := by
    rintro w S ⟨rfl, t, h, ht⟩
    have h0 : bs t = [] := by unfold endL at ht; split at ht; assumption; cases ht
    obtain rfl := empty_of h0
    refine (plain_end w K h).mono ?_
    rintro _ w1 ⟨rfl, rfl⟩
    exact ⟨rfl, 0, rfl⟩
  more := by
    rintro w S p L ⟨rfl, t, h, ht⟩
    have h0 : bs t ≠ [] := by intro h0; rw [h0] at ht; cases ht
    have h1 : endL (bs t) = [bs t] := by unfold endL; rw [if_neg h0]
    rw [h1] at ht
    cases ht
    refine (plain_more w K t h h0).mono ?_
    rintro _ w1 ⟨c, rfl, hb, hP, hk⟩
    rw [bs_size]
    exact ⟨c, _, rfl, hb, ⟨rfl, _, hP, rfl⟩, hk, fun k hk => hk⟩
/-! A function that keeps the words in a variable of its maker's. -/
def AppD (C : Nat) (w : World) (S : Nat → Prop) (L : List (List UInt8)) : Prop := ∃ v, S = mine C v ∧ w.heap[C]? = some (.cells #[v] 22 (0, 0)) ∧ ownS w C v L
theorem AppD.ne {C : Nat} {w : World} {v : Value} {L : List (List UInt8)} (h : w.heap[C]? = some (.cells #[v] 22 (0, 0))) (ho : ownS w C v L) : some C ≠ v.ownBlock := by
  intro e
  obtain ⟨cs, hc⟩ := ho.block C e.symm
  rw [h] at hc; cases hc
theorem app_done {C : Nat} {w w2 : World} {v v2 : Value} {L : List (List UInt8)} {o : List UInt8} (hC : w.heap[C]? = some (.cells #[v] 22 (0, 0))) (ho : ownS w C v L) (ho2 : w2.ownsRow C 9 1 v2 (L.length + 1) (scells L ++ [tx o])) (hgr : w.grownBy w2 v.ownBlock) (hmv : Moved v v2 w.heap.size) :
    ∃ S', Ending.returned (.bool true) = .returned (.bool true) ∧ AppD C (w2.setCell ⟨C, 0, none⟩ v2) S' (L ++ [o]) ∧ Kept (mine C v) w (w2.setCell ⟨C, 0, none⟩ v2) ∧ ∀ k, S' k → mine C v k ∨ w.heap.size ≤ k := by
  have hKlt : C < w.heap.size := (Array.getElem?_eq_some_iff.1 hC).1
  have hne := AppD.ne hC ho
  have hK2 := (hgr.block C hKlt hne).trans hC
  have hown : ownS w2 C v2 (L ++ [o]) := ownS.app (B := [o]) ho2 rfl
  refine ⟨mine C v2, rfl, ⟨v2, rfl, ?_, ?_⟩, ?_, ?_⟩
  · rw [heap_setCell_at hK2]; rfl
  · refine hown.kept fun g hg => Below.heap_setCell _ _ _ _ ?_
    intro e
    obtain ⟨cs, hc⟩ := hown.block g hg
    have e' : g = C := e
    rw [e', hK2] at hc; cases hc
  · exact ((Kept.refl _ w).grown hgr fun k hk _ => .inr hk.symm).setCell _ _ fun _ => .inl rfl
  · rintro k (rfl | hk)
    · exact .inl (.inl rfl)
    · rcases hmv with h | h
      · exact .inl (.inr (by rw [← h]; exact hk))
      · exact .inr (h k hk.symm)
theorem app_call (C : Nat) (w : World) (S : Nat → Prop) (L : List (List UInt8)) (o : List UInt8) (h : AppD C w S L) (hl : L.length < 1048576) :
    Calls Try.prog 20 #[tx o, .pointer (some ⟨C, 0, none⟩)] w fun e w' => ∃ S', e = .returned (.bool true) ∧ AppD C w' S' (L ++ [o]) ∧ Kept S w w' ∧ ∀ k, S' k → S k ∨ w.heap.size ≤ k := by
  obtain ⟨j0, hj, hy0, hy1, hy2⟩ := info_parts Try.info9
  obtain ⟨v, rfl, hC, ho⟩ := h
  obtain ⟨a1, cap1, rfl⟩ := ho.form2
  have hc0 : w.cell? ⟨C, 0, none⟩ = some (.slice a1 L.length cap1) := by rw [Lib.cell_of_heap hC]; rfl
  have hf0 : w.frozen? ⟨C, 0, none⟩ = false := Lib.frozen_of_heap hC 0
  have hKlt : C < w.heap.size := (Array.getElem?_eq_some_iff.1 hC).1
  have HNE := Lib.hid (AppD.ne hC ho)
  have HC := Lib.hid hC; have HO := Lib.hid ho
  clear hC ho
  unfold tx
  go_enter Try.func20, Try.ntmps20
  go_wp2_with (at_builtin; refine wpList_append_lies _ rfl (.tmp 4) (.tmp 6) 22 rfl C 9 j0 (.string ⟨#[]⟩) 1 16 Try.underlying22 hj hy0 hy1 hy2 rfl (by decide) _ _ (scells L) rfl (World.ownsRow.alloc HO.out _) _ 1 1 [tx o] rfl rfl (cell_one_new _ _ _) (by intro u hu; simp at hu; subst hu; rfl) (by decide) (by unfold maxLen; omega) (by omega) (Nat.le_trans (Nat.le_of_lt hKlt) (by simp)) _ rfl ?_; intro g3 cap3 w2 hown3 hgr3 hat3 hlt3; have hgr4 := grown_alloc (n := 0) hgr3; have hK2 := hgr4.block C hKlt HNE.out; have cw : w2.cell? ⟨C, 0, none⟩ = some (.slice a1 L.length cap1) := (World.cell?_of_block (a := ⟨C, 0, none⟩) hK2).trans hc0; have fw : w2.frozen? ⟨C, 0, none⟩ = false := (World.frozen?_of_block (a := ⟨C, 0, none⟩) hK2).trans hf0; clear hgr3)
  go_ret
  exact app_done HC.out HO.out hown3 hgr4 (by rcases hat3 with h | h; exact .inl h.symm; exact .inr (by intro q hq; simp [Value.ownBlock] at hq; simp at h; omega))
theorem app_call2 (C : Nat) (w : World) (S : Nat → Prop) (L : List (List UInt8)) (o : List UInt8) (h : AppD C w S L) (hl : L.length < 1048576) :
    Calls Try.prog 13 #[tx o, .pointer (some ⟨C, 0, none⟩)] w fun e w' => ∃ S', e = .returned (.bool true) ∧ AppD C w' S' (L ++ [o]) ∧ Kept S w w' ∧ ∀ k, S' k → S k ∨ w.heap.size ≤ k := by
  obtain ⟨j0, hj, hy0, hy1, hy2⟩ := info_parts Try.info9
  obtain ⟨v, rfl, hC, ho⟩ := h
  obtain ⟨a1, cap1, rfl⟩ := ho.form2
  have hc0 : w.cell? ⟨C, 0, none⟩ = some (.slice a1 L.length cap1) := by rw [Lib.cell_of_heap hC]; rfl
  have hf0 : w.frozen? ⟨C, 0, none⟩ = false := Lib.frozen_of_heap hC 0
  have hKlt : C < w.heap.size := (Array.getElem?_eq_some_iff.1 hC).1
  have HNE := Lib.hid (AppD.ne hC ho)
  have HC := Lib.hid hC; have HO := Lib.hid ho
  clear hC ho
  unfold tx
  go_enter Try.func13, Try.ntmps13
  go_wp2_with (at_builtin; refine wpList_append_lies _ rfl (.tmp 4) (.tmp 6) 22 rfl C 9 j0 (.string ⟨#[]⟩) 1 16 Try.underlying22 hj hy0 hy1 hy2 rfl (by decide) _ _ (scells L) rfl (World.ownsRow.alloc HO.out _) _ 1 1 [tx o] rfl rfl (cell_one_new _ _ _) (by intro u hu; simp at hu; subst hu; rfl) (by decide) (by unfold maxLen; omega) (by omega) (Nat.le_trans (Nat.le_of_lt hKlt) (by simp)) _ rfl ?_; intro g3 cap3 w2 hown3 hgr3 hat3 hlt3; have hgr4 := grown_alloc (n := 0) hgr3; have hK2 := hgr4.block C hKlt HNE.out; have cw : w2.cell? ⟨C, 0, none⟩ = some (.slice a1 L.length cap1) := (World.cell?_of_block (a := ⟨C, 0, none⟩) hK2).trans hc0; have fw : w2.frozen? ⟨C, 0, none⟩ = false := (World.frozen?_of_block (a := ⟨C, 0, none⟩) hK2).trans hf0; clear hgr3)
  go_ret
  exact app_done HC.out HO.out hown3 hgr4 (by rcases hat3 with h | h; exact .inl h.symm; exact .inr (by intro q hq; simp [Value.ownBlock] at hq; simp at h; omega))
theorem app_doer (C : Nat) : Doer (.func (.func 20) #[] #[.pointer (some ⟨C, 0, none⟩)]) 1048576 (AppD C) where
  lt := by
    rintro w S L ⟨v, rfl, hC, ho⟩ k (rfl | hk)
    · exact (Array.getElem?_eq_some_iff.1 hC).1
    · exact (ho.lt k hk.symm).2
  kept := by rintro w w' S L ⟨v, rfl, hC, ho⟩ hs hk; exact ⟨v, rfl, (hk C (.inl rfl)).trans hC, ho.kept fun g hg => hk g (.inr hg.symm)⟩
  call := .inr ⟨20, _, rfl, fun args w => by kernel_rfl, fun w S L o h hl => by rw [decide_eq_true (by omega)]; exact app_call C w S L o h hl⟩
theorem app_doer2 (C : Nat) : Doer (.func (.func 13) #[] #[.pointer (some ⟨C, 0, none⟩)]) 1048576 (AppD C) where
  lt := (app_doer C).lt
  kept := (app_doer C).kept
  call := .inr ⟨13, _, rfl, fun args w => by kernel_rfl, fun w S L o h hl => by rw [decide_eq_true (by omega)]; exact app_call2 C w S L o h hl⟩
theorem appD_new (w : World) : AppD w.heap.size (w.alloc (.cells #[.slice none 0 0] 22)) (fun k => k = w.heap.size) [] :=
  ⟨.slice none 0 0, by funext k; simp [mine, Value.ownBlock], heap_alloc_new w _, World.ownsRow_nil _ _ _ _⟩
/-! A function that counts. -/
def CntD (C F few : Nat) (w : World) (S : Nat → Prop) (L : List (List UInt8)) : Prop :=
  S = (fun k => k = C ∨ k = F) ∧ C ≠ F ∧ w.heap[C]? = some (.cells #[.int .i64 (L.length : Int)] 3 (0, 0)) ∧ w.heap[F]? = some (.cells #[.int .u8 (few : Int)] 5 (0, 0))
theorem cnt_call (C F few : Nat) (hfew : few ≤ 255) (w : World) (S : Nat → Prop) (L : List (List UInt8)) (o : List UInt8) (h : CntD C F few w S L) (hl : L.length < 1048576) :
    Calls Try.prog 14 #[tx o, .pointer (some ⟨C, 0, none⟩), .pointer (some ⟨F, 0, none⟩)] w fun e w' => ∃ S', e = .returned (.bool (decide (L.length + 1 ≤ few))) ∧ CntD C F few w' S' (L ++ [o]) ∧ Kept S w w' ∧ ∀ k, S' k → S k ∨ w.heap.size ≤ k := by
  obtain ⟨rfl, hne, hC, hF⟩ := h
  have hc0 : w.cell? ⟨C, 0, none⟩ = some (.int .i64 (L.length : Int)) := by rw [Lib.cell_of_heap hC]; rfl
  have hf0 : w.frozen? ⟨C, 0, none⟩ = false := Lib.frozen_of_heap hC 0
  have hd0 : w.cell? ⟨F, 0, none⟩ = some (.int .u8 (few : Int)) := by rw [Lib.cell_of_heap hF]; rfl
  have hd1 : (w.setCell ⟨C, 0, none⟩ (.int .i64 ((L.length : Int) + 1))).cell? ⟨F, 0, none⟩ = some (.int .u8 (few : Int)) := (World.cell?_setCell_other _ _ _ _ (by intro h; exact hne (congrArg Addr.block h))).trans hd0
  have hc1 : (w.setCell ⟨C, 0, none⟩ (.int .i64 ((L.length : Int) + 1))).cell? ⟨C, 0, none⟩ = some (.int .i64 ((L.length : Int) + 1)) := World.cell?_setCell_same _ _ _ hc0
  have HDN : Hid (∃ S', CntD C F few (w.setCell ⟨C, 0, none⟩ (.int .i64 ((L.length : Int) + 1))) S' (L ++ [o]) ∧ Kept (fun k => k = C ∨ k = F) w (w.setCell ⟨C, 0, none⟩ (.int .i64 ((L.length : Int) + 1))) ∧ ∀ k, S' k → (k = C ∨ k = F) ∨ w.heap.size ≤ k) := Lib.hid
    ⟨_, ⟨rfl, hne, by rw [heap_setCell_at hC]; simp, (Below.heap_setCell _ _ _ _ (fun h => hne h.symm)).trans hF⟩, (Kept.refl _ w).setCell _ _ fun _ => .inl rfl, fun k hk => .inl hk⟩
  clear hC hF
  unfold tx
  go_enter Try.func14, Try.ntmps14
  go_wp2
  go_ret
  obtain ⟨S', hd, hk, hs⟩ := HDN.out
  exact ⟨S', retB (decide_eq_decide.2 (by omega)), hd, hk, hs⟩
theorem cnt_doer (C F few : Nat) (hfew : few ≤ 255) : Doer (.func (.func 14) #[] #[.pointer (some ⟨C, 0, none⟩), .pointer (some ⟨F, 0, none⟩)]) few (CntD C F few) where
  lt := by
    rintro w S L ⟨rfl, hne, hC, hF⟩ k (rfl | rfl)
    · exact (Array.getElem?_eq_some_iff.1 hC).1
    · exact (Array.getElem?_eq_some_iff.1 hF).1
  kept := by rintro w w' S L ⟨rfl, hne, hC, hF⟩ hs hk; exact ⟨rfl, hne, (hk C (.inl rfl)).trans hC, (hk F (.inr rfl)).trans hF⟩
  call := .inr ⟨14, _, rfl, fun args w => by kernel_rfl, fun w S L o h hl => cnt_call C F few hfew w S L o h hl⟩
/-! No function. -/
def NoD (_ : World) (S : Nat → Prop) (_ : List (List UInt8)) : Prop := S = fun _ => False
theorem no_doer : Doer .nilFunc 1048576 NoD where
  lt := by rintro w S L rfl k h; exact h.elim
  kept := by rintro w w' S L rfl _ _; rfl
  call := .inl ⟨rfl, Nat.le_refl _, fun _ _ _ _ h => h⟩
theorem each_low (x f : Value) (n : Int) (w : World) (h0 : -9223372036854775808 ≤ n) (h1 : n ≤ 9223372036854775807) (h : n < 1 ∨ 65536 < n) :
    Calls Try.prog 12 #[x, .int .i64 n, f] w fun e w' => e = .returned (.tuple #[.int .i64 0, .int .i64 2]) ∧ w = w' := by
  rcases h with h | h
  · go_enter Try.func12, Try.ntmps12
    go_wp2
    go_ret2
    exact ⟨rfl, rfl⟩
  · go_enter Try.func12, Try.ntmps12
    go_wp2
    go_ret2
    exact ⟨rfl, rfl⟩
theorem each_none (x f : Value) (n : Int) (w : World) (h0 : 1 ≤ n) (h1 : n ≤ 65536) (ha : ∀ w : World, (Instr.typeAssert x 20 52 true).run Try.prog w = .ok (.tuple #[.nilIface, .bool false]) w) :
    Calls Try.prog 12 #[x, .int .i64 n, f] w fun e w' => e = .returned (.tuple #[.int .i64 0, .int .i64 11]) ∧ w = w' := by
  go_enter Try.func12, Try.ntmps12
  go_wp2
  go_ret2
  exact ⟨rfl, rfl⟩
theorem AllRet.from {m lim er : Nat} {D : World → (Nat → Prop) → List (List UInt8) → Prop} {w w1 w' : World} {SD : Nat → Prop} {b : Nat} {t : List UInt8} {e : Ending} (h : AllRet m lim er D w1 SD b t e w') (hk : Kept (fun k => SD k ∨ b ≤ k) w w1) : AllRet m lim er D w SD b t e w' := by
  obtain ⟨S', W, c, n, c', he, hw, hr, hd, hk', hs⟩ := h
  exact ⟨S', W, c, n, c', he, hw, hr, hd, hk.trans hk' fun _ _ h => h, hs⟩
theorem each_src (Ty : Nat) (P f : Value) (mth er m lim : Nat) (ms : World → Nat) (D Q : World → (Nat → Prop) → List (List UInt8) → Prop) (hQ : Srcer Ty P mth er ms Q) (hD : Doer f m D) (n : Int) (w : World) (SD SQ : Nat → Prop) (b : Nat) (T : List (List UInt8))
    (ha : ∀ w : World, (Instr.typeAssert (.iface Ty P) 20 52 true).run Try.prog w = .ok (.tuple #[.iface Ty P, .bool true]) w) (hn : n = (lim : Int)) (h0 : 1 ≤ lim) (h1 : lim ≤ 65536)
    (hq : Q w SQ T) (hd : D w SD []) (hdis : ∀ k, SD k → ¬ SQ k) (hqk : ∀ k, SQ k → b ≤ k) (hb : b ≤ w.heap.size) (hl : T.flatten.length ≤ 1000000) :
    Calls Try.prog 12 #[.iface Ty P, .int .i64 n, f] w (AllRet m lim er D w SD b T.flatten) := by
  subst hn
  have HQ := Lib.hid hQ; have HD := Lib.hid hD; have HQR := Lib.hid hq; have HDR := Lib.hid hd; have HDI := Lib.hid hdis; have HQK := Lib.hid hqk; have HL := Lib.hid hl
  clear hQ hD hq hd hdis hqk hl
  go_enter Try.func12, Try.ntmps12
  go_wp2_with fail
  refine (splNew_any _ lim w (by omega) (by omega) (by omega)).mono ?_
  rintro _ w1 ⟨rfl, rfl⟩
  go_wp2_with fail
  refine (all_any Ty P f mth er m lim ms D Q HQ.out HD.out _ SD SQ b w.heap.size T (splNew_spl w b lim hb) (HQ.out.kept HQR.out (by simp) fun k hk => Below.heap_alloc _ _ _ (HQ.out.lt HQR.out k hk)) (HD.out.kept HDR.out (by simp) fun k hk => Below.heap_alloc _ _ _ (HD.out.lt HDR.out k hk))
    (fun k hk => ⟨HDI.out k hk, Nat.ne_of_lt (HD.out.lt HDR.out k hk)⟩) (fun k hk => ⟨Nat.ne_of_lt (HQ.out.lt HQR.out k hk), HQK.out k hk⟩) HL.out).mono ?_
  intro e w2 hr
  replace hr := hr.from ((Kept.refl _ w).alloc _)
  obtain ⟨S', W, c, n, c', rfl, hr⟩ := hr
  go_wp2
  go_ret2
  exact ⟨S', W, c, n, c', rfl, hr⟩
/-! Read. -/
theorem read_low (x : Value) (n : Int) (w : World) (h0 : -9223372036854775808 ≤ n) (h1 : n ≤ 9223372036854775807) (h : n < 1 ∨ 65536 < n) :
    Calls Try.prog 9 #[x, .int .i64 n] w fun e w' => e = .returned (.tuple #[.slice none 0 0, .int .i64 2]) ∧ Below w.heap.size w w' := by
  go_enter Try.func9, Try.ntmps9
  go_wp2_with fail
  refine (each_low _ _ n _ h0 h1 h).mono ?_
  rintro _ w1 ⟨rfl, rfl⟩
  go_wp2
  go_ret2
  exact ⟨rfl, (Below.refl _ _).alloc (Nat.le_refl _) _⟩
theorem read_none (x : Value) (n : Int) (w : World) (h0 : 1 ≤ n) (h1 : n ≤ 65536) (ha : ∀ w : World, (Instr.typeAssert x 20 52 true).run Try.prog w = .ok (.tuple #[.nilIface, .bool false]) w) :
    Calls Try.prog 9 #[x, .int .i64 n] w fun e w' => e = .returned (.tuple #[.slice none 0 0, .int .i64 11]) ∧ Below w.heap.size w w' := by
  go_enter Try.func9, Try.ntmps9
  go_wp2_with fail
  refine (each_none _ _ n _ h0 h1 ha).mono ?_
  rintro _ w1 ⟨rfl, rfl⟩
  go_wp2
  go_ret2
  exact ⟨rfl, (Below.refl _ _).alloc (Nat.le_refl _) _⟩
/-- What Read answers of words W and their cause c. -/
def ReadRet (W : List (List UInt8)) (c : Nat) (w : World) (b : Nat) (e : Ending) (w' : World) : Prop :=
  ∃ v L, e = .returned (.tuple #[v, .int .i64 (c : Int)]) ∧ ownS w' w.heap.size v L ∧ ((c = 0 ∧ L = W) ∨ (c ≠ 0 ∧ L = [])) ∧ Kept (fun k => b ≤ k) w w'
end Go.Proofs.Ytfajhjppbecjaaa
