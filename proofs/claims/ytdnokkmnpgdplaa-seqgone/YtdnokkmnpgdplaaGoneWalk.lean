/- SeqGone: the law's walk. -/
import Derived.Test.YtdnokkmnpgdplaaAwake
import Derived.Lib.SmallJoins
namespace Go.Proofs.Ytdnokkmnpgdplaa
open Go.ChangeShapes Go.WideShapes Go.RowKit Go.Maps

theorem open_pair {H : Type} {enc : TypeId × Value → H} {W : World} {base : Nat} {v : Value} {d : DataW H} {p : List MemPlace} (ov : Value.okWide Try.prog W .any base 32 v)
    (h : DataW.Trod enc Try.prog W 0 (fun _ => true) true 32 v d p) : ∃ a b : Int, v = .agg #[.int .i64 a, .int .i64 b] ∧ FitsPr (a, b) := by
  obtain ⟨v0, v1, y0, y1, n, rfl, _, _, t0, t1⟩ := Joins.open_agg2 Try.underlying32 (by kernel_rfl) Try.cells32 ov h
  obtain ⟨a, e0, _, ha⟩ := DataW.trod_int Try.underlying3 t0
  obtain ⟨b, e1, _, hb⟩ := DataW.trod_int Try.underlying3 t1
  simp only [List.cons.injEq, and_true] at e0 e1
  exact ⟨a, b, by rw [e0, e1], bounds_i64 ha, bounds_i64 hb⟩
set_option maxHeartbeats 4000000 in
theorem seqGone_walk (s : ByteArray) (p q : Int) (w : World) (hp : FitsPr (p, q)) : Calls Try.prog 4 #[.string s, .agg #[.int .i64 p, .int .i64 q]] w fun e w' => e = .returned (.bool true) ∧ Below w.heap.size w w' := by
  obtain ⟨w0, hw0⟩ : ∃ w0, w0 = w.alloc (.cells #[.int .i64 p, .int .i64 q] 32) := ⟨_, rfl⟩
  have HB0 : Hid (Below w.heap.size w w0) := Lib.hid (by rw [hw0]; exact (Below.refl _ w).alloc (Nat.le_refl _) _)
  have b0 : w0.cell? ⟨w.heap.size, 0, none⟩ = some (.int .i64 p) := by rw [hw0]; simp
  have b1 : w0.cell? ⟨w.heap.size, 1, none⟩ = some (.int .i64 q) := by rw [hw0]; simp
  have HLT : Hid (w.heap.size < w0.heap.size) := Lib.hid (by rw [hw0]; simp)
  have hw' := hw0.symm
  clear hw0
  have cW := awake_any w0
  go_enter Try.func4, Try.ntmps4
  go_wp2_with fail
  refine cW.mono ?_
  rintro e w1 ⟨rfl, hb1⟩
  have HB1 := Lib.hid hb1
  clear cW hb1 hw'
  by_cases hl : 200 < s.size
  · go_wp2
    go_ret
    exact ⟨rfl, HB0.out.trans (HB1.out.mono HB0.out.size)⟩
  · have cN := new_any s w1 (by omega)
    go_wp2_with fail
    refine cN.mono ?_
    rintro e w2 ⟨K, rfl, hs2, hK, hb2⟩
    have HK : Hid (w1.heap.size ≤ K) := Lib.hid hK
    have HB2 : Hid (Below w0.heap.size w0 w2) := Lib.hid (HB1.out.trans (hb2.mono HB1.out.size))
    have HS2 := Lib.hid hs2
    clear cN hK hb2 hs2
    have hX := syms_len s
    have cL := len_any K w1.heap.size (syms s) [] w2 HS2.out
    rw [hX] at cL
    go_wp2_with fail
    refine cL.mono ?_
    rintro e w2 ⟨rfl, rfl⟩
    clear cL
    have d0 : w2.cell? ⟨w.heap.size, 0, none⟩ = some (.int .i64 p) := (HB2.out.cell HLT.out).trans b0
    have d1 : w2.cell? ⟨w.heap.size, 1, none⟩ = some (.int .i64 q) := (HB2.out.cell HLT.out).trans b1
    have cM := merge_any K w1.heap.size (syms s) [] p q 1000 w2 HS2.out hp (by decide)
    go_wp2_with fail
    refine cM.mono ?_
    rintro e w3 ⟨v3, L3, Y3, rfl, hs3, _, _, _, hk3⟩
    have HS3 := Lib.hid hs3
    have HB3 : Hid (Below w0.heap.size w0 w3) := Lib.hid (Below.kept HB2.out hk3 (fun i e => by have := HK.out; have := HB1.out.size; omega) HB2.out.size)
    clear cM hs3 hk3 d0 d1
    obtain ⟨X', hX'⟩ : ∃ X', mergeL (p, q) 1000 (syms s) = X' := ⟨_, rfl⟩
    obtain ⟨n', hn'⟩ : ∃ n', timesL (p, q) (syms s) = n' := ⟨_, rfl⟩
    have hml := merge_len (p := (p, q)) (s := 1000) (syms s)
    have HGone : Hid (timesL (p, q) X' = 0) := Lib.hid (by rw [← hX']; exact gone_any fun x hx => by have := syms_range hx; omega)
    rw [hX', hn', hX] at hml
    rw [hX'] at HS3
    have cL := len_any K w1.heap.size X' Y3 w3 HS3.out
    have hsub : IntKind.i64.wrap ((s.size : Int) - (n' : Int)) = (X'.length : Int) := by rw [IntWalk.i64_in _ (by omega)]; omega
    have hneg : ¬ (n' : Int) < 0 := by omega
    rw [hn']
    go_wp2_with fail
    refine cL.mono ?_
    rintro e w3 ⟨rfl, rfl⟩
    clear cL
    have d0 : w3.cell? ⟨w.heap.size, 0, none⟩ = some (.int .i64 p) := (HB3.out.cell HLT.out).trans b0
    have d1 : w3.cell? ⟨w.heap.size, 1, none⟩ = some (.int .i64 q) := (HB3.out.cell HLT.out).trans b1
    have cM := merge_any K w1.heap.size X' Y3 p q 1001 w3 HS3.out hp (by decide)
    rw [HGone.out, merge_same HGone.out] at cM
    go_wp2_with fail
    refine cM.mono ?_
    rintro e w4 ⟨v4, L4, Y4, rfl, _, ho4, hc4, _, hk4⟩
    obtain rfl := changes_none hc4 (fun q => by omega)
    obtain ⟨a, cap, rfl, _⟩ := ho4.form
    have HB4 : Hid (Below w0.heap.size w0 w4) := Lib.hid (Below.kept HB3.out hk4 (fun i e => by have := HK.out; have := HB1.out.size; omega) HB3.out.size)
    clear cM ho4 hc4 hk4 d0 d1
    go_wp2
    go_ret
    exact ⟨rfl, HB0.out.trans (HB4.out.mono HB0.out.size)⟩
end Go.Proofs.Ytdnokkmnpgdplaa
