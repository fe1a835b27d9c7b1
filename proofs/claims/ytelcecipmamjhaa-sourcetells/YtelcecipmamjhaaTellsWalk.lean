/- The walk of SourceTells. -/
import Derived.Test.YtelcecipmamjhaaAwake
import Derived.Test.YtelcecipmamjhaaTold
import Derived.Test.YtelcecipmamjhaaPieces
namespace Go.Proofs.Ytelcecipmamjhaa
open Go.RowKit

/-- 'append(a, b...)' where a is owned and b is read. -/
theorem run_append_read {w : World} {base : Nat} {v x : Value} {A B : List (List UInt8)} (ty : TypeId) (hA : ownS w base v A) (hB : strsAt w x B) (hnil : ∀ n c, x = .slice none n c → c = 0) (hl : A.length + B.length ≤ 1048576) (hb : base ≤ w.heap.size) :
    ∃ r w', (Builtin.append_ #[22, 22] ty #[v, x]).run Try.prog w = .ok r w' ∧ ownS w' base r (A ++ B) ∧ w.grownBy w' v.ownBlock := by
  obtain ⟨j0, hj, hy0, hy1, hy2⟩ := info_parts Try.info9
  obtain ⟨a, c, rfl, hc⟩ := hB
  cases a with
  | none =>
    obtain rfl := hnil _ _ rfl
    have hB0 : B = [] := by
      cases B with
      | nil => rfl
      | cons b r => obtain ⟨ad, e, _⟩ := hc 0 (by simp); cases e
    subst hB0
    exact ⟨v, w, run_append_owned_none w base 22 ty 9 j0 1 Try.underlying22 hj v _ _ hA, by simpa using hA, ⟨rfl, rfl, rfl, Nat.le_refl _, fun _ _ _ => rfl⟩⟩
  | some ad =>
    have hsrc : ∀ j u, (scells B)[j]? = some u → w.cell? (ad.add j) = some u := by
      intro j u hu
      have hj : j < B.length := by have := (List.getElem?_eq_some_iff.1 hu).1; simpa [scells] using this
      obtain ⟨ad', e, hcj⟩ := hc j hj
      cases e
      rw [hcj, ← hu]
      simp [scells, List.getElem?_eq_getElem hj]
    obtain ⟨r, w', hr, h2, h3, _, _⟩ := run_append_own_at (P := Try.prog) w base 22 ty 9 j0 (.string ⟨#[]⟩) 1 16 Try.underlying22 hj hy0 hy1 hy2 rfl (by decide) v A.length (scells A) hA ad B.length c (scells B) (by simp [scells]) hsrc (scells_one B) (by unfold maxLen; omega) (by omega) hb
    exact ⟨r, w', hr, ownS.app h2 rfl, h3⟩
theorem wpList_append_read {w : World} {ops : Array Oper} {rest : List Oper} {o : Oper} {a : Act} {Q : Exit → Act → World → Prop} (hgd : o.guard = none) (s x : Operand)
    (ho : o.op = .call { callee := .builtin .append, args := #[s, x], argTypes := #[22, 22] }) (base : Nat) (v y : Value) (A B : List (List UInt8)) (hs : a.eval s = v) (hx : a.eval x = y)
    (hA : ownS w base v A) (hB : strsAt w y B) (hnil : ∀ n c, y = .slice none n c → c = 0) (hl : A.length + B.length ≤ 1048576) (hb : base ≤ w.heap.size)
    (h : ∀ r w', ownS w' base r (A ++ B) → w.grownBy w' v.ownBlock → wpList Try.prog ops Q rest (a.put o.dst r) w') : wpList Try.prog ops Q (o :: rest) a w := by
  refine wpList_plain hgd fun K hK => ?_
  obtain ⟨r, w', hr, h2, h3⟩ := run_append_read o.type hA hB hnil hl hb
  unfold Oper.wp execOp
  simp only [ho, resolve, invoke, builtin, Sem.run_bind, Sem.run_pure, Result.andThen_ok, List.map_toArray, List.map_cons, List.map_nil, hs, hx, hr]
  exact hK _ _ (h r w' h2 h3)
theorem own_empty (w : World) : ownS (w.alloc (.cells #[] 9)) w.heap.size (.slice (some ⟨w.heap.size, 0, none⟩) 0 0) [] :=
  ⟨rfl, .inr ⟨w.heap.size, 0, #[], rfl, Nat.le_refl _, heap_alloc_new w _, Nat.le_refl _, Nat.zero_le _, rfl, rfl⟩⟩

/-- Block g is a row of n texts at least that may be written. -/
def rowS (w : World) (g n : Nat) : Prop := ∃ cs, w.heap[g]? = some (.cells cs 9 (0, 0)) ∧ n ≤ cs.size
theorem rowS.cells {w : World} {g n j : Nat} (h : rowS w g n) (hj : j < n) : (∃ u, w.cell? ⟨g, j, none⟩ = some u) ∧ w.frozen? ⟨g, j, none⟩ = false := by
  obtain ⟨cs, hg, h1⟩ := h
  refine ⟨⟨cs[j], ?_⟩, Lib.frozen_of_heap hg j⟩
  rw [cell_of_row w g j cs 9 (0, 0) hg, Array.getElem?_eq_getElem (by omega)]
theorem rowS.store {w : World} {g n : Nat} (h : rowS w g n) (j : Nat) (u : Value) : rowS (w.setCell ⟨g, j, none⟩ u) g n := by
  obtain ⟨cs, hg, h1⟩ := h
  exact ⟨_, heap_setCell_at hg u, by simpa using h1⟩
theorem rowS.kept {w w' : World} {g n : Nat} (h : rowS w g n) (hk : w'.heap[g]? = w.heap[g]?) : rowS w' g n := by
  obtain ⟨cs, hg, h1⟩ := h
  exact ⟨cs, hk.trans hg, h1⟩
/-- The handed row is written over. -/
def OverRel (w : World) (v : Value) (n : Nat) (i : Value) (wr : World) : Prop :=
  ∃ k : Nat, k ≤ n ∧ i = .int .i64 (k : Int) ∧ Kept (fun g => v.ownBlock = some g) w wr ∧ ∀ g, v.ownBlock = some g → rowS wr g n

theorem rowS_of_own {w : World} {b g : Nat} {v : Value} {L : List (List UInt8)} (h : ownS w b v L) (hg : v.ownBlock = some g) : rowS w g L.length := by
  rcases h.2 with ⟨rfl, _⟩ | ⟨g', cap, cur, rfl, _, hgg, h1, _, h3, _⟩
  · simp [Value.ownBlock] at hg
  · simp [Value.ownBlock] at hg; subst hg; exact ⟨cur, hgg, by omega⟩
theorem overRel_step {w wr : World} {v : Value} {n k g : Nat} {u : Value} (hk : k < n) (hv : v.ownBlock = some g) (hkp : Kept (fun g => v.ownBlock = some g) w wr) (hr : ∀ g, v.ownBlock = some g → rowS wr g n) : OverRel w v n (.int .i64 ((k : Int) + 1)) (wr.setCell ⟨g, k, none⟩ u) := by
  refine ⟨k + 1, hk, by simp, hkp.setCell _ _ fun _ => hv, fun g' hg' => ?_⟩
  rw [hv] at hg'
  cases hg'
  exact (hr g hv).store k u

/-- A told piece is written over. -/
def PieceRel (w : World) (g n : Nat) (j : Value) (wr : World) : Prop := ∃ m : Nat, m ≤ n ∧ j = .int .i64 (m : Int) ∧ Kept (fun k => k = g) w wr ∧ rowOk wr g n
theorem pieceRel_step {w wr : World} {g n m : Nat} {u : Value} (hm : m < n) (hk : Kept (fun k => k = g) w wr) (hr : rowOk wr g n) : PieceRel w g n (.int .i64 ((m : Int) + 1)) (wr.setCell ⟨g, m, none⟩ u) :=
  ⟨m + 1, hm, by simp, hk.setCell _ _ fun _ => rfl, hr.store m u⟩

/-- What the law has behind k pieces: the script s in block a, less these; the script t in block b; what is wanted, in r. -/
def TellsRel (w : World) (a b d : Nat) (vt r : Value) (sz e : Nat) (W : List (List UInt8)) (i : Value) (wr : World) : Prop :=
  ∃ (k : Nat) (vs : Value), k ≤ W.length ∧ i = .int .i64 (k : Int) ∧ Scr wr a a vs sz e (W.drop k) ∧ (∀ g, mineS a vs g → g < b) ∧ Scr wr b b vt sz e W ∧ (∀ g, mineS b vt g → g < d) ∧ ownS wr d r W ∧ Below w.heap.size w wr
theorem tellsRel_step {w wr w6 w7 : World} {a b d : Nat} {vs vs6 vt r : Value} {sz e : Nat} {W : List (List UInt8)} {k : Nat} (ha : w.heap.size ≤ a) (hk : k < W.length) (hS : Scr wr a a vs sz e (W.drop k)) (hms : ∀ g, mineS a vs g → g < b) (hT : Scr wr b b vt sz e W) (hmt : ∀ g, mineS b vt g → g < d) (hr : ownS wr d r W) (hb : Below w.heap.size w wr)
    (hS6 : Scr w6 a a vs6 sz e (W.drop (k + 1))) (hm6 : ∀ g, mineS a vs6 g → mineS a vs g) (hk6 : Kept (fun g => g = a) wr w6) (hk7 : Kept (fun g => g = wr.heap.size) w6 w7) :
    TellsRel w a b d vt r sz e W (.int .i64 ((k : Int) + 1)) w7 := by
  have hab := hms a (.inl rfl)
  have hbd := hmt b (.inl rfl)
  have h67 : ∀ g, g < wr.heap.size → g ≠ a → w7.heap[g]? = wr.heap[g]? := fun g hg hne => (hk7.block g (Nat.lt_of_lt_of_le hg hk6.size) (by omega)).trans (hk6.block g hg hne)
  have hsz := Nat.le_trans hk6.size hk7.size
  refine ⟨k + 1, vs6, hk, by simp, ?_, fun g hg => hms g (hm6 g hg), ?_, hmt, ?_, ?_⟩
  · refine hS6.kept hk7.size fun g hg => hk7.block g (hS6.mine_lt g hg) fun e => ?_
    have := hS.mine_lt g (hm6 g hg)
    omega
  · refine hT.kept hsz fun g hg => h67 g (hT.mine_lt g hg) fun e => ?_
    have := hT.mine_ge g hg
    omega
  · refine hr.kept fun g hg => h67 g (hr.lt g hg).2 fun e => ?_
    have := (hr.lt g hg).1
    omega
  · have h6 := Below.kept hb hk6 (by rintro i rfl; exact ha) hb.size
    exact Below.kept h6 hk7 (by rintro i rfl; exact hb.size) h6.size
def TwoRel (w : World) (i : Value) (wr : World) : Prop := ∃ k : Nat, k ≤ 2 ∧ i = .int .i64 (k : Int) ∧ ∃ n, wr = w.drewN n

theorem new_as (x : Value) (f : Int) (P : List (List UInt8)) (w : World) (sz e : Nat) (W : List (List UInt8)) (h1 : (ahead P f).flatten.length = sz) (h2 : failing P f = e) (h3 : full (ahead P f) = W) (hx : strsAt w x P) (hcap : ∀ a n c, x = .slice a n c → n ≤ c) (hn : P.length ≤ 1048576) (hs : P.flatten.length ≤ 1048576) :
    Calls Try.prog 8 #[x, .int .i64 f] w fun r w' => r = .returned (.pointer (some ⟨w.heap.size, 0, none⟩)) ∧ (∃ v, Scr w' w.heap.size w.heap.size v sz e W) ∧ Below w.heap.size w w' := by
  subst h1; subst h2; subst h3
  exact new_any x f P w hx hcap hn hs
theorem told_as (x : Value) (f : Int) (P : List (List UInt8)) (w : World) (e : Nat) (W : List (List UInt8)) (h2 : failing P f = e) (h3 : full (ahead P f) = W) (hx : strsAt w x P) (hn : P.length ≤ 1048576) :
    Calls Try.prog 9 #[x, .int .i64 f] w fun q w' => ∃ r, q = .returned (.tuple #[r, .int .i64 (e : Int)]) ∧ ownS w' w.heap.size r W ∧ Below w.heap.size w w' := by
  subst h2; subst h3
  exact told_any x f P w hx hn
theorem whole_as (v : Value) (L : List (List UInt8)) (s : ByteArray) (w : World) (hv : strsAt w v L) (hn : L.length ≤ 1048576) (hs : L.flatten.length ≤ 1048576) (h : bs s = L.flatten) :
    Calls Try.prog 10 #[v] w fun e w' => e = .returned (.string s) ∧ w = w' := by
  have := whole_any v L w hv hn hs
  rw [← h, ba_eq] at this
  exact this
theorem all_ok (w : World) (base K sz e : Nat) (v : Value) (L : List (List UInt8)) (s : ByteArray) (hS : Scr w base K v sz e L) (hne : ∀ l ∈ L, l ≠ []) (hlen : L.flatten.length ≤ 1048576) (he : e = 0) (h : bs s = L.flatten) :
    Calls Try.prog 13 #[.iface 25 (.pointer (some ⟨K, 0, none⟩))] w fun r w' => r = .returned (.tuple #[.string s, .int .i64 (e : Int)]) ∧ Kept (fun k => k = K) w w' := by
  have := all_script w base K sz e v L hS hne hlen
  rw [allOf_ok he, ← h, ba_eq] at this
  exact this
theorem all_err (w : World) (base K sz e : Nat) (v : Value) (L : List (List UInt8)) (hS : Scr w base K v sz e L) (hne : ∀ l ∈ L, l ≠ []) (hlen : L.flatten.length ≤ 1048576) (he : ¬ e = 0) :
    Calls Try.prog 13 #[.iface 25 (.pointer (some ⟨K, 0, none⟩))] w fun r w' => r = .returned (.tuple #[.string ⟨#[]⟩, .int .i64 (e : Int)]) ∧ Kept (fun k => k = K) w w' := by
  have := all_script w base K sz e v L hS hne hlen
  rw [allOf_err he] at this
  exact this

set_option maxRecDepth 100000 in
set_option maxHeartbeats 2000000 in
theorem sourceTells_walk (x : Value) (f : Int) (P : List (List UInt8)) (w : World) (hx : strsAt w x P) (hcap : ∀ a n c, x = .slice a n c → n ≤ c) (hnil : ∀ n c, x = .slice none n c → c = 0) (hn : P.length ≤ 8796093022208) :
    Calls Try.prog 3 #[x, .int .i64 f] w fun e w' => e = .returned (.bool true) ∧ Below w.heap.size w w' := by
  have HX := Lib.hid hx; have HC := Lib.hid hcap; have HN := Lib.hid hnil
  clear hx hcap hnil
  go_enter Try.func3, Try.ntmps3
  go_wp2_with fail
  refine (awake_any _).mono ?_
  rintro _ w1 ⟨rfl, hb1⟩
  go_wp2_with fail
  refine (great_any _ P _ (HX.out.below hb1) hn).mono ?_
  rintro _ w2 ⟨⟨b, rfl, hb⟩, rfl⟩
  cases b
  case true =>
    go_wp2
    go_ret
    exact ⟨rfl, hb1⟩
  case false =>
    obtain ⟨hP1, hP2⟩ := hb rfl
    clear hb
    have HP1 := Lib.hid hP1
    have HP2 := Lib.hid hP2
    have z1 := hb1.size
    -- what is told
    obtain ⟨W, hW⟩ : ∃ W, full (ahead P f) = W := ⟨_, rfl⟩
    obtain ⟨e, he⟩ : ∃ e, failing P f = e := ⟨_, rfl⟩
    obtain ⟨al, hal⟩ : ∃ s : ByteArray, bs s = W.flatten := ⟨⟨W.flatten.toArray⟩, rfl⟩
    have hfl : (ahead P f).flatten.length = al.size := by rw [← bs_size, hal, ← hW, full_flat]
    have HW1 : Hid (W.length ≤ 100) := Lib.hid (by have h1 := full_len (ahead P f); have h2 := ahead_len P f; rw [hW] at h1; omega)
    have HW2 : Hid (W.flatten.length ≤ 3000) := Lib.hid (by rw [← hal, bs_size, ← hfl]; have := ahead_flat P f; omega)
    have HWN : Hid (∀ l ∈ W, l ≠ []) := Lib.hid (by rw [← hW]; exact full_ne _)
    have HW := Lib.hid hW; have HE := Lib.hid he; have HAL := Lib.hid hal; have HFL := Lib.hid hfl
    clear hW he hal hfl hP1 hP2
    have HX1 : Hid (strsAt (w1.alloc (.cells #[] 9)) x P) := Lib.hid ((HX.out.below hb1).below_in ((Below.refl _ _).alloc (Nat.le_refl _) _) (Nat.le_refl _))
    go_wp2_with (at_builtin; refine wpList_append_read rfl (.tmp 29) (.tmp 30) rfl w1.heap.size _ x [] P rfl rfl (own_empty w1) HX1.out HN.out (by have := HP1.out; simp; omega) (by simp) ?_; intro h w2 hown2 hgr2; have hg2 : (w1.alloc (.cells #[] 9)).grownBy w2 (some w1.heap.size) := hgr2; clear hgr2; rw [List.nil_append] at hown2)
    have HO2 := Lib.hid hown2
    obtain ⟨aH, cH, hh, hcH⟩ := hown2.form3
    have hB2 : Below w.heap.size w w2 := (hb1.alloc z1 _).grown hg2 (by simp; omega) (fun g hg => by cases hg; exact z1)
    have HHF := Lib.hid hh
    clear hown2 hh
    refine (new_as h f P w2 al.size e W HFL.out HE.out HW.out HO2.out.reads (by intro a n c ev; rw [HHF.out] at ev; cases ev; exact hcH) (by have := HP1.out; omega) (by have := HP2.out; omega)).mono ?_
    rintro _ w3 ⟨rfl, ⟨vs, hS3⟩, hb3⟩
    have HS3 := Lib.hid hS3
    have hB3 : Below w.heap.size w w3 := hB2.trans (hb3.mono hB2.size)
    clear hS3
    go_wp2_with fail
    refine (new_as x f P w3 al.size e W HFL.out HE.out HW.out (HX.out.below_in hB3 (Nat.le_refl _)) HC.out (by have := HP1.out; omega) (by have := HP2.out; omega)).mono ?_
    rintro _ w4 ⟨rfl, ⟨vt, hT4⟩, hb4⟩
    have HT4 := Lib.hid hT4
    have HS4 := Lib.hid (HS3.out.below hb4 (Nat.le_refl _))
    have hB4 : Below w.heap.size w w4 := hB3.trans (hb4.mono hB3.size)
    have HO4 := Lib.hid ((HO2.out.below hb3 (Nat.le_refl _)).below hb4 (Nat.le_refl _))
    clear hT4
    have hlen : (P.length : Int) ≤ 100 := by have := HP1.out; omega
    rw [HHF.out]
    go_wp2_with fail
    go_loopw [8] (fun i wr => OverRel w4 h P.length i wr) (fun i _ => P.length - (intOf i).toNat)
    case atStart => exact ⟨0, Nat.zero_le _, rfl, Kept.refl _ _, fun g hg => rowS_of_own HO4.out hg⟩
    case round =>
      obtain ⟨k, hk, rfl, hkp, hrow⟩ := hrel
      have HRW := Lib.hid hrow; clear hrow
      by_cases hlt : k < P.length
      · obtain ⟨g, hgA⟩ : ∃ g, aH = some ⟨g, 0, none⟩ := by
          rcases HO4.out.form with ⟨_, h0⟩ | ⟨g, cap, hg, _⟩
          · rw [h0] at hlt; simp at hlt
          · rw [HHF.out] at hg; cases hg; exact ⟨g, rfl⟩
        subst hgA
        have HOB : Hid (h.ownBlock = some g) := Lib.hid (by rw [HHF.out]; rfl)
        obtain ⟨⟨u0, hc0⟩, hf0⟩ := (HRW.out g HOB.out).cells hlt
        go_wp2_with fail
        go_roundw
        case rel => exact overRel_step hlt HOB.out hkp HRW.out
        case measure => simp [intOf]; omega
      · obtain ⟨w5, hw5⟩ : ∃ w5, w5 = wr := ⟨_, rfl⟩
        subst hw5
        have HS5 : Hid (Scr w5 w2.heap.size w2.heap.size vs al.size e W) := Lib.hid (HS4.out.kept hkp.size fun i hi => hkp.block i (HS4.out.mine_lt i hi) fun ev => by
          have h1 := HS4.out.mine_ge i hi
          have h2 := (HO2.out.lt i ev).2
          omega)
        have HT5 : Hid (Scr w5 w3.heap.size w3.heap.size vt al.size e W) := Lib.hid (HT4.out.kept hkp.size fun i hi => hkp.block i (HT4.out.mine_lt i hi) fun ev => by
          have h1 := HT4.out.mine_ge i hi
          have h2 := (HO2.out.lt i ev).2
          have h3 := hb3.size
          omega)
        have hB5 : Below w.heap.size w w5 := Below.kept hB4 hkp (fun i ev => by have := (HO2.out.lt i ev).1; omega) hB4.size
        go_wp2_with fail
        refine (told_as x f P w5 e W HE.out HW.out (HX.out.below_in hB5 (Nat.le_refl _)) (by have := HP1.out; omega)).mono ?_
        rintro _ w6 ⟨r, rfl, hr6, hb6⟩
        obtain ⟨aR, cR, hrf, hcR⟩ := hr6.form3
        have HR6 := Lib.hid hr6
        have HS6 := Lib.hid (HS5.out.below hb6 (Nat.le_refl _))
        have HT6 := Lib.hid (HT5.out.below hb6 (Nat.le_refl _))
        have hB6 : Below w.heap.size w w6 := hB5.trans (hb6.mono hB5.size)
        have HRF := Lib.hid hrf
        clear hr6 hrf
        go_wp2_with fail
        refine (whole_as r W al w6 HR6.out.reads (by have := HW1.out; omega) (by have := HW2.out; omega) HAL.out).mono ?_
        rintro _ w7 ⟨rfl, rfl⟩
        have hWl : (W.length : Int) ≤ 100 := by have := HW1.out; omega
        rw [HRF.out]
        go_wp2_with fail
        go_loopw [12] (fun i wr => TellsRel w w2.heap.size w3.heap.size w5.heap.size vt r al.size e W i wr) (fun i _ => W.length - (intOf i).toNat)
        case atStart => exact ⟨0, vs, Nat.zero_le _, rfl, by simpa using HS6.out, fun g hg => HS3.out.mine_lt g hg, HT6.out, fun g hg => HT5.out.mine_lt g hg, HR6.out, hB6⟩
        case round =>
          obtain ⟨k2, vs2, hk2, rfl, hS, hms, hT, hmt, hR, hB⟩ := hrel
          have HS := Lib.hid hS; have HMS := Lib.hid hms; have HT := Lib.hid hT; have HMT := Lib.hid hmt; have HR := Lib.hid hR
          clear hS hms hT hmt hR
          obtain ⟨wo, hwo⟩ : ∃ wo, wo = wr := ⟨_, rfl⟩
          subst hwo
          by_cases hlt2 : k2 < W.length
          · obtain ⟨p, hp⟩ : ∃ p, p = W[k2] := ⟨_, rfl⟩
            have HD : Hid (W.drop k2 = p :: W.drop (k2 + 1)) := Lib.hid (by rw [hp]; exact List.drop_eq_getElem_cons hlt2)
            have HSD : Hid (Scr wo w2.heap.size w2.heap.size vs2 al.size e (p :: W.drop (k2 + 1))) := Lib.hid (by rw [← HD.out]; exact HS.out)
            have hpl : (p.length : Int) ≤ 3000 := by
              have h1 := HW2.out
              have h2 := congrArg List.length (flat_next W hlt2)
              have h3 := flat_le W (k2 + 1)
              rw [List.length_append, ← hp] at h2
              omega
            have HPW := Lib.hid hp
            clear hp
            go_wp2_with fail
            refine (sizeOf_script wo _ _ _ _ _ _ HS.out).mono ?_
            rintro _ w8 ⟨rfl, rfl⟩
            go_wp2_with fail
            refine (next_more wo _ _ _ _ _ p (W.drop (k2 + 1)) HSD.out).mono ?_
            rintro _ w8 ⟨c8, vs8, rfl, hb8, hrow8, hS8, hk8, hm8⟩
            obtain ⟨y, hy⟩ : ∃ y : ByteArray, y = ⟨p.toArray⟩ := ⟨_, rfl⟩
            have hcv : ∀ n, (convert 32 9 (.slice (some ⟨wo.heap.size, 0, none⟩) p.length c8)).run Try.prog (w8.drewN n) = .ok (.string y) (w8.drewN n) := fun n => by
              rw [hy]; exact bytesAt.text (w := w8.drewN n) (hb8.kept fun _ _ => rfl)
            have hcv0 : (convert 32 9 (.slice (some ⟨wo.heap.size, 0, none⟩) p.length c8)).run Try.prog w8 = .ok (.string y) w8 := by rw [hy]; exact hb8.text
            have hown8 : ownS w8 w5.heap.size r W := HR.out.kept fun g hg => hk8.block g (HR.out.lt g hg).2 fun ev => by
              have h1 := (HR.out.lt g hg).1
              have h2 := HMS.out _ (.inl rfl)
              have h3 := HMT.out _ (.inl rfl)
              omega
            obtain ⟨aR', cR', hrf', hcl⟩ := hown8.reads
            rw [HRF.out] at hrf'
            cases hrf'
            obtain ⟨ad, hadr, hcell⟩ := hcl k2 hlt2
            subst hadr
            unfold tx at hcell
            rw [← HPW.out, ← hy] at hcell
            have HRW8 := Lib.hid hrow8; have HS8 := Lib.hid hS8; have HM8 := Lib.hid hm8
            clear hb8 hrow8 hS8 hm8 hown8 hcl hy
            go_wp2
            go_quiet (fail)
            go_wp2_with fail
            go_loopw [18] (fun j wr => PieceRel w8 wo.heap.size p.length j wr) (fun j _ => p.length - (intOf j).toNat)
            case atStart => exact ⟨0, Nat.zero_le _, rfl, (Kept.refl _ _).drewN _, HRW8.out⟩
            case round =>
              obtain ⟨m, hm, rfl, hkp9, hrp9⟩ := hrel
              have HRP := Lib.hid hrp9; clear hrp9
              by_cases hml : m < p.length
              · obtain ⟨⟨u0, hc0⟩, hf0⟩ := HRP.out.cells hml
                go_wp2_with fail
                go_roundw
                case rel => exact pieceRel_step hml hkp9 HRP.out
                case measure => simp [intOf]; omega
              · go_wp2_with fail
                go_roundw
                case rel => exact tellsRel_step hB2.size hlt2 HS.out HMS.out HT.out HMT.out HR.out hB HS8.out HM8.out hk8 hkp9
                case measure => simp [intOf]; omega
          · have HSE : Hid (Scr wo w2.heap.size w2.heap.size vs2 al.size e []) := Lib.hid (by
              have h1 := HS.out
              rwa [List.drop_eq_nil_of_le (by omega)] at h1)
            go_wp2_with fail
            go_loopw [19] (fun i wr => TwoRel wo i wr) (fun i _ => 2 - (intOf i).toNat)
            case atStart => exact ⟨0, Nat.zero_le _, rfl, 0, rfl⟩
            case round =>
              obtain ⟨m, hm, rfl, nd, rfl⟩ := hrel
              by_cases hml : (m : Int) < 2
              · go_wp2_with fail
                refine (next_end _ _ _ _ _ _ (HSE.out.kept (w' := wo.drewN nd) (Nat.le_refl _) fun _ _ => rfl)).mono ?_
                rintro _ w9 ⟨rfl, n9, rfl⟩
                go_wp2_with fail
                go_roundw
                case rel => exact ⟨m + 1, by omega, by simp, nd + n9, by simp⟩
                case measure => simp [intOf]; omega
              · have HTE : Hid (Scr (wo.drewN nd) w3.heap.size w3.heap.size vt al.size e W) := Lib.hid (HT.out.kept (Nat.le_refl _) fun _ _ => rfl)
                by_cases he : (e : Int) = 0
                · have HE0 : Hid (e = 0) := Lib.hid (by omega)
                  go_wp2_with fail
                  refine (all_ok _ _ _ _ _ _ W al HTE.out HWN.out (by have := HW2.out; omega) HE0.out HAL.out).mono ?_
                  rintro _ w9 ⟨rfl, hk9⟩
                  go_wp2
                  go_ret
                  exact ⟨rfl, Below.kept (below_drewN' hB nd) hk9 (by rintro i rfl; exact hB3.size) (below_drewN' hB nd).size⟩
                · have HE0 : Hid (¬ e = 0) := Lib.hid (by omega)
                  go_wp2_with fail
                  refine (all_err _ _ _ _ _ _ W HTE.out HWN.out (by have := HW2.out; omega) HE0.out).mono ?_
                  rintro _ w9 ⟨rfl, hk9⟩
                  go_wp2
                  go_ret
                  exact ⟨rfl, Below.kept (below_drewN' hB nd) hk9 (by rintro i rfl; exact hB3.size) (below_drewN' hB nd).size⟩
end Go.Proofs.Ytelcecipmamjhaa
