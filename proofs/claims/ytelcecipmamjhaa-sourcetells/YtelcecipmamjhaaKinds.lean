/- What is asked of an interface value, and the contracts of source.Size, Must and All. -/
import Derived.Test.YtelcecipmamjhaaNext
import Derived.Stop.Asserts
namespace Go.Proofs.Ytelcecipmamjhaa
open Go.RowKit

theorem Try.sizedScript (v : Value) (w : World) : (Instr.typeAssert (.iface 25 v) 20 51 true).run Try.prog w = .ok (.tuple #[.iface 25 v, .bool true]) w := run_typeAssert_hasB Try.underlying51 (by kernel_rfl) v 20 w
theorem Try.sizedPlain (v : Value) (w : World) : (Instr.typeAssert (.iface 39 v) 20 51 true).run Try.prog w = .ok (.tuple #[.nilIface, .bool false]) w := run_typeAssert_lacksB Try.underlying51 (by kernel_rfl) (by kernel_rfl) v 20 w
theorem Try.sizedText (v : Value) (w : World) : (Instr.typeAssert (.iface 9 v) 20 51 true).run Try.prog w = .ok (.tuple #[.nilIface, .bool false]) w := run_typeAssert_lacksB Try.underlying51 (by kernel_rfl) (by kernel_rfl) v 20 w
theorem Try.sourceScript (v : Value) (w : World) : (Instr.typeAssert (.iface 25 v) 20 43 true).run Try.prog w = .ok (.tuple #[.iface 25 v, .bool true]) w := run_typeAssert_hasB Try.underlying43 (by kernel_rfl) v 20 w
theorem Try.sourcePlain (v : Value) (w : World) : (Instr.typeAssert (.iface 39 v) 20 43 true).run Try.prog w = .ok (.tuple #[.iface 39 v, .bool true]) w := run_typeAssert_hasB Try.underlying43 (by kernel_rfl) v 20 w
theorem Try.sourceText (v : Value) (w : World) : (Instr.typeAssert (.iface 9 v) 20 43 true).run Try.prog w = .ok (.tuple #[.nilIface, .bool false]) w := run_typeAssert_lacksB Try.underlying43 (by kernel_rfl) (by kernel_rfl) v 20 w
theorem Try.sourceInt (v : Value) (w : World) : (Instr.typeAssert (.iface 3 v) 20 43 true).run Try.prog w = .ok (.tuple #[.nilIface, .bool false]) w := run_typeAssert_lacksB Try.underlying43 (by kernel_rfl) (by kernel_rfl) v 20 w
theorem Try.sourceNil (w : World) : (Instr.typeAssert .nilIface 20 43 true).run Try.prog w = .ok (.tuple #[.nilIface, .bool false]) w := by kernel_rfl
theorem Try.sizedNil (w : World) : (Instr.typeAssert .nilIface 20 51 true).run Try.prog w = .ok (.tuple #[.nilIface, .bool false]) w := by kernel_rfl

theorem Try.callSize (a : Option Addr) (w : World) : (method 179 25 (.pointer a) "Size").run Try.prog w = .ok (16, .pointer a) w := by cases a <;> kernel_rfl
theorem Try.callNext (a : Option Addr) (w : World) : (method 179 25 (.pointer a) "Next").run Try.prog w = .ok (12, .pointer a) w := by cases a <;> kernel_rfl
theorem Try.callPlain (a : Option Addr) (w : World) : (method 179 39 (.pointer a) "Next").run Try.prog w = .ok (15, .pointer a) w := by cases a <;> kernel_rfl
theorem Try.mustPlain (v : Value) (w : World) : (Instr.typeAssert (.iface 39 v) 20 43 false).run Try.prog w = .ok (.iface 39 v) w := by kernel_rfl

theorem sizeOf_text (s : ByteArray) (w : World) : Calls Try.prog 11 #[.iface 9 (.string s)] w fun e w' => e = .returned (.tuple #[.int .i64 0, .bool false]) ∧ w = w' := by
  have h := Try.sizedText
  go_enter Try.func11, Try.ntmps11
  go_wp2
  go_ret2
  exact ⟨rfl, rfl⟩
theorem sizeOf_plain (v : Value) (w : World) : Calls Try.prog 11 #[.iface 39 v] w fun e w' => e = .returned (.tuple #[.int .i64 0, .bool false]) ∧ w = w' := by
  have h := Try.sizedPlain
  go_enter Try.func11, Try.ntmps11
  go_wp2
  go_ret2
  exact ⟨rfl, rfl⟩
theorem sizeOf_nil (w : World) : Calls Try.prog 11 #[.nilIface] w fun e w' => e = .returned (.tuple #[.int .i64 0, .bool false]) ∧ w = w' := by
  have h := Try.sizedNil
  go_enter Try.func11, Try.ntmps11
  go_wp2
  go_ret2
  exact ⟨rfl, rfl⟩
theorem sizeOf_script (w : World) (base K sz e : Nat) (v : Value) (L : List (List UInt8)) (hS : Scr w base K v sz e L) : Calls Try.prog 11 #[.iface 25 (.pointer (some ⟨K, 0, none⟩))] w fun e w' => e = .returned (.tuple #[.int .i64 (sz : Int), .bool true]) ∧ w = w' := by
  have h := Try.sizedScript
  have hm := Try.callSize
  go_enter Try.func11, Try.ntmps11
  go_wp2_with fail
  refine (size_any _ base K sz e v L hS).mono ?_
  rintro _ w1 ⟨rfl, rfl⟩
  go_wp2
  go_ret2
  exact ⟨rfl, rfl⟩
theorem must_plain (v : Value) (w : World) : Calls Try.prog 14 #[.iface 39 v] w fun e w' => e = .returned (.iface 39 v) ∧ w = w' := by
  have h := Try.mustPlain
  go_enter Try.func14, Try.ntmps14
  go_wp2
  go_ret
  exact ⟨rfl, rfl⟩
theorem all_text (s : ByteArray) (w : World) : Calls Try.prog 13 #[.iface 9 (.string s)] w fun e w' => e = .returned (.tuple #[.string ⟨#[]⟩, .int .i64 11]) ∧ w = w' := by
  have h := Try.sourceText
  go_enter Try.func13, Try.ntmps13
  go_wp2
  go_ret2
  exact ⟨rfl, rfl⟩
theorem all_int (n : Int) (w : World) : Calls Try.prog 13 #[.iface 3 (.int .i64 n)] w fun e w' => e = .returned (.tuple #[.string ⟨#[]⟩, .int .i64 11]) ∧ w = w' := by
  have h := Try.sourceInt
  go_enter Try.func13, Try.ntmps13
  go_wp2
  go_ret2
  exact ⟨rfl, rfl⟩
theorem all_nil (w : World) : Calls Try.prog 13 #[.nilIface] w fun e w' => e = .returned (.tuple #[.string ⟨#[]⟩, .int .i64 11]) ∧ w = w' := by
  have h := Try.sourceNil
  go_enter Try.func13, Try.ntmps13
  go_wp2
  go_ret2
  exact ⟨rfl, rfl⟩

/-! All of a script. -/
def allOf (e : Nat) (L : List (List UInt8)) : List UInt8 := if e = 0 then L.flatten else []
theorem allOf_ok {e : Nat} (h : e = 0) (L : List (List UInt8)) : allOf e L = L.flatten := if_pos h
theorem allOf_err {e : Nat} (h : ¬ e = 0) (L : List (List UInt8)) : allOf e L = [] := if_neg h
def leftLen (w : World) (K : Nat) : Nat := match w.cell? ⟨K, 0, none⟩ with | some (.slice _ n _) => n | _ => 0
theorem Scr.left {w : World} {base K sz e : Nat} {v : Value} {L : List (List UInt8)} (h : Scr w base K v sz e L) : leftLen w K = L.length := by
  obtain ⟨h0, _⟩ := h.cells
  obtain ⟨a, c, rfl, _⟩ := h.2.2.1
  unfold leftLen; rw [h0]
/-- What is joined of a script's pieces so far. -/
def JoinRel (w : World) (base K sz e : Nat) (L : List (List UInt8)) (wr : World) : Prop :=
  ∃ (vb vs : Value) (M R : List (List UInt8)), L = M ++ R ∧ Bld wr w.heap.size w.heap.size vb M.flatten ∧ Scr wr base K vs sz e R ∧ (∀ k, mineS K vs k → k < w.heap.size) ∧ Kept (fun k => k = K) w wr
theorem bld_new (w : World) : Bld (w.alloc (.cells #[.pointer none, .slice none 0 0] 56)) w.heap.size w.heap.size (.slice none 0 0) [] :=
  ⟨Nat.le_refl _, ⟨_, .inl rfl, heap_alloc_new w _⟩, World.ownsRow_nil _ _ _ _, fun _ => rfl⟩
theorem joinRel_start {w : World} {base K sz e : Nat} {v : Value} {L : List (List UInt8)} (h : Scr w base K v sz e L) : JoinRel w base K sz e L (w.alloc (.cells #[.pointer none, .slice none 0 0] 56)) :=
  ⟨_, v, [], L, rfl, bld_new w, h.kept (by simp) fun k hk => Below.heap_alloc _ _ _ (h.mine_lt k hk), h.mine_lt, (Kept.refl _ _).alloc _⟩
/-- A piece more. -/
theorem joinRel_more {w wr w1 w2 : World} {base K sz e : Nat} {L M R : List (List UInt8)} {p : List UInt8} {vb vs vs1 vb2 : Value} (hL : L = M ++ p :: R) (hB : Bld wr w.heap.size w.heap.size vb M.flatten) (hmn : ∀ k, mineS K vs k → k < w.heap.size) (hk : Kept (fun k => k = K) w wr)
    (hS1 : Scr w1 base K vs1 sz e R) (hm1 : ∀ k, mineS K vs1 k → mineS K vs k) (hk1 : Kept (fun k => k = K) wr w1) (hB2 : Bld w2 w.heap.size w.heap.size vb2 (M.flatten ++ p)) (hk2 : Kept (mine w.heap.size vb) w1 w2) : JoinRel w base K sz e L w2 := by
  refine ⟨vb2, vs1, M ++ [p], R, by simp [hL], by simpa using hB2, ?_, fun k hk => hmn k (hm1 k hk), ?_⟩
  · refine hS1.kept hk2.size fun k hk' => hk2.block k (hS1.mine_lt k hk') fun hm => ?_
    have h1 := hmn k (hm1 k hk')
    have h2 := hB.mine_ge k hm
    omega
  · refine (hk.trans hk1 fun _ _ h => h).trans hk2 fun i hi hm => ?_
    have h2 := hB.mine_ge i hm
    omega

set_option maxHeartbeats 1000000 in
theorem join_script (w : World) (base K sz e : Nat) (v : Value) (L : List (List UInt8)) (hS : Scr w base K v sz e L) (hne : ∀ l ∈ L, l ≠ []) (hlen : L.flatten.length ≤ 1048576) :
    Calls Try.prog 17 #[.iface 25 (.pointer (some ⟨K, 0, none⟩))] w fun r w' => r = .returned (.tuple #[.string ⟨(allOf e L).toArray⟩, .int .i64 (e : Int)]) ∧ Kept (fun k => k = K) w w' := by
  have hm := Try.callNext
  have HS := Lib.hid hS
  have HNE := Lib.hid hne
  have HLEN := Lib.hid hlen
  clear hS hne hlen
  go_enter Try.func17, Try.ntmps17
  go_wp2
  go_loopw [] (fun wr => JoinRel w base K sz e L wr) (fun wr => leftLen wr K)
  case atStart => exact joinRel_start HS.out
  case round =>
    obtain ⟨vb, vs, M, R, hL, hB, hS, hmn, hk⟩ := hrel
    have HL := Lib.hid hL; have HB := Lib.hid hB; have HSR := Lib.hid hS; have HMN := Lib.hid hmn
    clear hL hB hS hmn
    cases R with
    | nil =>
      go_wp2_with fail
      refine (next_end _ base K sz e vs HSR.out).mono ?_
      rintro _ w1 ⟨rfl, n, rfl⟩
      by_cases he : (e : Int) = 0
      · have HE : Hid (e = 0) := Lib.hid (by omega)
        have HBn : Hid (Bld (wr.drewN n) w.heap.size w.heap.size vb M.flatten) := Lib.hid (HB.out.kept fun _ _ => rfl)
        go_wp2_with fail
        refine (string_any _ w.heap.size w.heap.size vb M.flatten HBn.out).mono ?_
        rintro _ w2 ⟨rfl, hk2⟩
        go_wp2
        go_ret2
        refine ⟨?_, (hk.drewN n).trans hk2 fun i hi h => by omega⟩
        have : M.flatten = L.flatten := by rw [HL.out]; simp
        rw [allOf_ok HE.out, ← this, HE.out]; rfl
      · have HE : Hid (¬ e = 0) := Lib.hid (by omega)
        go_wp2
        go_ret2
        exact ⟨by rw [allOf_err HE.out]; rfl, hk.drewN n⟩
    | cons p R =>
      have hpne : p ≠ [] := HNE.out p (by rw [HL.out]; simp)
      have HP := Lib.hid hpne; clear hpne
      have HLP : Hid (M.flatten.length + p.length ≤ 1048576) := Lib.hid (by
        have h1 := HLEN.out
        rw [HL.out, List.flatten_append, List.flatten_cons, List.length_append, List.length_append] at h1
        omega)
      go_wp2_with fail
      refine (next_more _ base K sz e vs p R HSR.out).mono ?_
      rintro _ w1 ⟨c1, vs1, rfl, hb1, hr1, hS1, hk1, hm1⟩
      have HB1 := Lib.hid hb1; have HS1 := Lib.hid hS1; have HM1 := Lib.hid hm1
      clear hb1 hr1 hS1 hm1
      have HBK : Hid (Bld w1 w.heap.size w.heap.size vb M.flatten) := Lib.hid (HB.out.kept fun k hk' => hk1.block k (HB.out.mine_lt k hk') fun e => by
        have h1 := HB.out.mine_ge k hk'
        have h2 := HMN.out K (.inl rfl)
        omega)
      go_wp2_with fail
      refine (write_any _ _ w.heap.size w.heap.size vb M.flatten p HBK.out HB1.out ?_ HP.out HLP.out).mono ?_
      · intro e
        exact absurd (HB.out.mine_lt _ (.inr e.symm)) (Nat.lt_irrefl _)
      rintro _ w2 ⟨vb2, rfl, hB2, hk2, hmv⟩
      have HB2 := Lib.hid hB2; clear hB2
      go_wp2
      go_roundw
      case rel => exact joinRel_more HL.out HB.out HMN.out hk HS1.out HM1.out hk1 HB2.out hk2
      case measure =>
        have hS2 : Scr w2 base K vs1 sz e R := HS1.out.kept hk2.size fun k hk' => hk2.block k (HS1.out.mine_lt k hk') fun hm => by
          have h1 := HMN.out k (HM1.out k hk')
          have h2 := HB.out.mine_ge k hm
          omega
        rw [hS2.left, HSR.out.left]; simp
theorem all_script (w : World) (base K sz e : Nat) (v : Value) (L : List (List UInt8)) (hS : Scr w base K v sz e L) (hne : ∀ l ∈ L, l ≠ []) (hlen : L.flatten.length ≤ 1048576) :
    Calls Try.prog 13 #[.iface 25 (.pointer (some ⟨K, 0, none⟩))] w fun r w' => r = .returned (.tuple #[.string ⟨(allOf e L).toArray⟩, .int .i64 (e : Int)]) ∧ Kept (fun k => k = K) w w' := by
  have h := Try.sourceScript
  have HS := Lib.hid hS
  have HNE := Lib.hid hne
  have HLEN := Lib.hid hlen
  clear hS hne hlen
  go_enter Try.func13, Try.ntmps13
  go_wp2_with fail
  refine (join_script _ base K sz e v L HS.out HNE.out HLEN.out).mono ?_
  rintro _ w1 ⟨rfl, hk⟩
  go_wp2
  go_ret2
  exact ⟨rfl, hk⟩

/-! All of a Plain. -/
def textLen (w : World) (K : Nat) : Nat := match w.cell? ⟨K, 0, none⟩ with | some (.string t) => t.size | _ => 0
theorem Pln.left {w : World} {K : Nat} {t : ByteArray} (h : Pln w K t) : textLen w K = t.size := by
  unfold textLen; rw [h.cells.1]
def PlainRel (w : World) (K : Nat) (t : ByteArray) (wr : World) : Prop :=
  ∃ (vb : Value) (M : List UInt8) (r : ByteArray), bs t = M ++ bs r ∧ Bld wr w.heap.size w.heap.size vb M ∧ Pln wr K r ∧ Kept (fun k => k = K) w wr
theorem empty_of {t : ByteArray} (h : bs t = []) : t = ⟨#[]⟩ := by
  have := ba_eq t
  rw [← this]; simp [h]
theorem bs_size (t : ByteArray) : (bs t).length = t.size := size_toList t

set_option maxHeartbeats 1000000 in
theorem join_plain (w : World) (K : Nat) (t : ByteArray) (hP : Pln w K t) (hlen : t.size ≤ 1048576) :
    Calls Try.prog 17 #[.iface 39 (.pointer (some ⟨K, 0, none⟩))] w fun r w' => r = .returned (.tuple #[.string t, .int .i64 0]) ∧ Kept (fun k => k = K) w w' := by
  have hm := Try.callPlain
  have HP := Lib.hid hP
  have hKlt := hP.lt
  clear hP
  go_enter Try.func17, Try.ntmps17
  go_wp2
  go_loopw [] (fun wr => PlainRel w K t wr) (fun wr => textLen wr K)
  case atStart => exact ⟨_, [], t, rfl, bld_new w, (Below.heap_alloc _ _ _ hKlt).trans HP.out, (Kept.refl _ _).alloc _⟩
  case round =>
    obtain ⟨vb, M, r, ht, hB, hPr, hk⟩ := hrel
    have HT := Lib.hid ht; have HB := Lib.hid hB; have HPR := Lib.hid hPr
    clear ht hB hPr
    by_cases hr : bs r = []
    · obtain rfl := empty_of hr
      have HM : Hid (t = ⟨M.toArray⟩) := Lib.hid (by rw [← ba_eq t]; show (⟨(bs t).toArray⟩ : ByteArray) = _; rw [HT.out, hr, List.append_nil])
      clear hr
      go_wp2_with fail
      refine (plain_end _ K HPR.out).mono ?_
      rintro _ w1 ⟨rfl, rfl⟩
      go_wp2_with fail
      refine (string_any _ w.heap.size w.heap.size vb M HB.out).mono ?_
      rintro _ w2 ⟨rfl, hk2⟩
      go_wp2
      go_ret2
      exact ⟨by rw [HM.out]; rfl, hk.trans hk2 fun i hi h => by omega⟩
    · have HR := Lib.hid hr; clear hr
      have HLEN : Hid (M.length + (bs r).length ≤ 1048576) := Lib.hid (by
        have := congrArg List.length HT.out
        rw [List.length_append, bs_size] at this
        omega)
      go_wp2_with fail
      refine (plain_more _ K r HPR.out HR.out).mono ?_
      rintro _ w1 ⟨c1, rfl, hb1, hP1, hk1⟩
      have HB1 := Lib.hid hb1; have HP1 := Lib.hid hP1
      clear hb1 hP1
      have HBK : Hid (Bld w1 w.heap.size w.heap.size vb M) := Lib.hid (HB.out.kept fun k hk' => hk1.block k (HB.out.mine_lt k hk') fun e => by
        have h1 := HB.out.mine_ge k hk'
        omega)
      go_wp2_with fail
      refine (write_any _ _ w.heap.size w.heap.size vb M (bs r) HBK.out HB1.out ?_ HR.out HLEN.out).mono ?_
      · intro e
        exact absurd (HB.out.mine_lt _ (.inr e.symm)) (Nat.lt_irrefl _)
      rintro _ w2 ⟨vb2, rfl, hB2, hk2, hmv⟩
      have HB2 := Lib.hid hB2; clear hB2
      have HP2 : Hid (Pln w2 K ⟨#[]⟩) := Lib.hid ((hk2.block K HP1.out.lt fun hm => by have := HB.out.mine_ge K hm; omega).trans HP1.out)
      go_wp2
      go_roundw
      case rel =>
        refine ⟨vb2, M ++ bs r, ⟨#[]⟩, by rw [HT.out]; simp, HB2.out, HP2.out, ?_⟩
        refine (hk.trans hk1 fun _ _ h => h).trans hk2 fun i hi hm => ?_
        have h2 := HB.out.mine_ge i hm
        omega
      case measure =>
        rw [HP2.out.left, HPR.out.left]
        have h1 := List.length_pos_iff.2 HR.out
        rw [bs_size] at h1
        exact h1
theorem all_plain (w : World) (K : Nat) (t : ByteArray) (hP : Pln w K t) (hlen : t.size ≤ 1048576) :
    Calls Try.prog 13 #[.iface 39 (.pointer (some ⟨K, 0, none⟩))] w fun r w' => r = .returned (.tuple #[.string t, .int .i64 0]) ∧ Kept (fun k => k = K) w w' := by
  have h := Try.sourcePlain
  have HP := Lib.hid hP
  clear hP
  go_enter Try.func13, Try.ntmps13
  go_wp2_with fail
  refine (join_plain _ K t HP.out hlen).mono ?_
  rintro _ w1 ⟨rfl, hk⟩
  go_wp2
  go_ret2
  exact ⟨rfl, hk⟩
end Go.Proofs.Ytelcecipmamjhaa
