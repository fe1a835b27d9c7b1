/- Texts in one: TlPut, TlLearn, NpG. -/
import Derived.Test.YtnmacalbbmeedaaGreatQ42
import Derived.Test.YtnmacalbbmeedaaGreatQ10
/- A round of puts: for each pair of a row, what the index counts is put into the queue, nothing of what is too few (a method of the learner). -/
namespace Go.Proofs.YtnmacalbbmeedaaGreat
open Go.RowKit Go.Maps Go.Shelf

/-- A learner's own cells. -/
def lrnV (Kx T Kq : Nat) (b d ps c : Int) : Obj := .cells #[.int .i64 b, .int .i64 d, .int .i64 ps, .int .i64 c, .pointer (some ⟨T, 0, none⟩), .pointer (some ⟨Kx, 0, none⟩), .pointer (some ⟨Kq, 0, none⟩)] 72 (0, 0)
/-- The cells that are read. -/
structure LrnC (K Kx T Kq : Nat) (b d ps c : Int) (W : World) : Prop where
  bu : W.cell? ⟨K, 0, none⟩ = some (.int .i64 b)
  le : W.cell? ⟨K, 1, none⟩ = some (.int .i64 d)
  po : W.cell? ⟨K, 2, none⟩ = some (.int .i64 ps)
  ro : W.cell? ⟨K, 3, none⟩ = some (.int .i64 c)
  sy : W.cell? ⟨K, 4, none⟩ = some (.pointer (some ⟨T, 0, none⟩))
  ix : W.cell? ⟨K, 5, none⟩ = some (.pointer (some ⟨Kx, 0, none⟩))
  qu : W.cell? ⟨K, 6, none⟩ = some (.pointer (some ⟨Kq, 0, none⟩))
variable {w w' : World} {S : Nat → Prop} {Kx Kq T N K : Nat} {J : List Joint} {M : Mdl} {q : Qm}
set_option maxRecDepth 100000 in
theorem lrnC {b d ps c : Int} {W : World} (h : W.heap[K]? = some (lrnV Kx T Kq b d ps c)) : LrnC K Kx T Kq b d ps c W :=
  ⟨by rw [cell_of_row W K _ _ _ (0, 0) h]; rfl, by rw [cell_of_row W K _ _ _ (0, 0) h]; rfl, by rw [cell_of_row W K _ _ _ (0, 0) h]; rfl, by rw [cell_of_row W K _ _ _ (0, 0) h]; rfl, by rw [cell_of_row W K _ _ _ (0, 0) h]; rfl, by rw [cell_of_row W K _ _ _ (0, 0) h]; rfl, by rw [cell_of_row W K _ _ _ (0, 0) h]; rfl⟩
def TrPtRel (d : Int) (w : World) (S : Nat → Prop) (Kx Kq T N : Nat) (J : List Joint) (M : Mdl) (q : Qm) (Y : List (Int × Int)) (x : Value) (wr : World) : Prop := ∃ i : Nat, x = .int .i64 (i : Int) ∧ i ≤ Y.length ∧ TrPt d w S Kx Kq T N J M q Y i wr
/-- The cells of a round: the learner's, and the pair's. -/
def PutC (K Kx T Kq bx : Nat) (b d ps c p1 p2 : Int) (W : World) : Prop := LrnC K Kx T Kq b d ps c W ∧ W.cell? ⟨bx, 0, none⟩ = some (.int .i64 p1) ∧ W.cell? ⟨bx, 1, none⟩ = some (.int .i64 p2)
set_option maxRecDepth 100000 in
set_option maxHeartbeats 8000000 in
theorem tlput_any (r : Value) (Y : List (Int × Int)) {b d ps c : Int} (h : Tr3 w S Kx Kq T N J M q) (hbox : w.heap[K]? = some (lrnV Kx T Kq b d ps c)) (hK : ¬ S K) (hr : ∀ W S', Stp S S' w W → eltsAt pairE W r Y) (hY : ∀ p ∈ Y, FitsPr p ∧ ThereP J p ∧ FitsN (getC M.cnt p)) (hpu : q.pu + (Y.length : Int) ≤ 80000) (hlen : Y.length ≤ 80000) :
    Calls Tryz.prog 31 #[.pointer (some ⟨K, 0, none⟩), r] w fun e w' => e = .returned (.tuple #[]) ∧ TrPt d w S Kx Kq T N J M q Y Y.length w' := by
  have HR := Lib.hid hr
  have hst : TrPtRel d w S Kx Kq T N J M q Y (.int .i64 ((0 : Nat) : Int)) w := ⟨0, rfl, Nat.zero_le _, TrPt.start h⟩
  have HST := Lib.hid hst
  obtain ⟨a, cap, rfl, _⟩ := hr w S ⟨Kept.refl S w, fun _ h _ => h⟩
  have HBX := Lib.hid hbox
  have HK := Lib.hid hK
  have HY := Lib.hid hY
  have HPU := Lib.hid hpu
  have hKlt := (Array.getElem?_eq_some_iff.1 hbox).1
  obtain ⟨n, hn⟩ : ∃ n, Y.length = n := ⟨_, rfl⟩
  rw [hn] at hlen ⊢
  have HN := Lib.hid hn
  clear hr hst h hbox hK hY hpu hn
  go_enter Tryz.func31, Tryz.ntmps31
  go_wp2
  go_loopw [9] (fun x wr => TrPtRel d w S Kx Kq T N J M q Y x wr) (fun x _ => n - (intOf x).toNat)
  case atStart => exact HST.out
  case round =>
    clear HST
    obtain ⟨i, rfl, hi, S1, t1, s1⟩ := hrel
    rw [HN.out] at hi
    have HS1 := Lib.hid s1
    have HT1 := Lib.hid t1
    by_cases hgo : i < n
    · have hgoI : (i : Int) < (n : Int) := by omega
      have hiY : i < Y.length := by rw [HN.out]; exact hgo
      have hwi : IntKind.i64.wrap ((i : Int) + 1) = (i : Int) + 1 := IntWalk.i64_in _ (by omega)
      have hrow := HR.out wr S1 s1
      obtain ⟨ad, rfl, _⟩ : ∃ ad, a = some ad ∧ True := by
        obtain ⟨_, _, e1, hc⟩ := hrow
        obtain ⟨ad, e2, _⟩ := hc i hiY
        exact ⟨ad, (Value.slice.inj e1).1.trans e2, trivial⟩
      obtain ⟨r0, r1⟩ := pairs_at hrow (Below.refl _ _) hiY
      obtain ⟨f1, f2, f3⟩ := HY.out Y[i] (List.getElem_mem _)
      obtain ⟨⟨p1, p2⟩, hp⟩ : ∃ p, Y[i] = p := ⟨_, rfl⟩
      have HP := Lib.hid hp
      rw [hp] at r0 r1 f1 f2 f3
      simp only at r0 r1
      obtain ⟨cc, hcc⟩ : ∃ c, getC M.cnt (p1, p2) = c := ⟨_, rfl⟩
      have HCC := Lib.hid hcc
      rw [hcc] at f3
      have HF := Lib.hid (And.intro f1 (And.intro f2 f3))
      obtain ⟨w1, hw1⟩ : ∃ w1, wr.alloc (.cells #[.int .i64 p1, .int .i64 p2] 77) = w1 := ⟨_, rfl⟩
      obtain ⟨bx, hbx⟩ : ∃ bx, wr.heap.size = bx := ⟨_, rfl⟩
      have hb1 : Below wr.heap.size wr w1 := by rw [← hw1]; exact (Below.refl _ _).alloc (Nat.le_refl _) _
      have hbx1 : w1.heap[bx]? = some (.cells #[.int .i64 p1, .int .i64 p2] 77 (0, 0)) := by rw [← hw1, ← hbx]; exact heap_alloc_new _ _
      have HB1 := Lib.hid hb1
      have t2 := t1.below hb1
      have HT2 := Lib.hid t2
      have hKw1 : w1.heap[K]? = some (lrnV Kx T Kq b d ps c) := (hb1.block K (Nat.lt_of_lt_of_le hKlt s1.kept.size)).trans ((s1.kept.block K hKlt HK.out).trans HBX.out)
      have hKS1 : ¬ S1 K := fun e => HK.out (s1.out K e hKlt)
      have hbS1 : ¬ S1 bx := fun e => by have := t1.lt bx e; omega
      have hlt1 : K < w1.heap.size ∧ bx < w1.heap.size := ⟨(Array.getElem?_eq_some_iff.1 hKw1).1, (Array.getElem?_eq_some_iff.1 hbx1).1⟩
      have HCL : Hid (∀ W : World, W.heap[K]? = w1.heap[K]? → W.heap[bx]? = w1.heap[bx]? → PutC K Kx T Kq bx b d ps c p1 p2 W) := Lib.hid fun W e1 e2 =>
        ⟨lrnC (e1.trans hKw1), by rw [cell_of_row W bx _ _ _ (0, 0) (e2.trans hbx1)]; rfl, by rw [cell_of_row W bx _ _ _ (0, 0) (e2.trans hbx1)]; rfl⟩
      have HCG : Hid (∀ W, Grown w1 W → PutC K Kx T Kq bx b d ps c p1 p2 W) := Lib.hid fun W hg => HCL.out W (hg.below.block K hlt1.1) (hg.below.block bx hlt1.2)
      have HCG5 : Hid (∀ W, Grown w1 W → W.cell? ⟨K, 5, none⟩ = some (.pointer (some ⟨Kx, 0, none⟩)) ∧ W.cell? ⟨bx, 0, none⟩ = some (.int .i64 p1) ∧ W.cell? ⟨bx, 1, none⟩ = some (.int .i64 p2)) := Lib.hid fun W hg => ⟨(HCG.out W hg).1.ix, (HCG.out W hg).2⟩
      have HCG6 : Hid (∀ W, Grown w1 W → W.cell? ⟨K, 6, none⟩ = some (.pointer (some ⟨Kq, 0, none⟩)) ∧ W.cell? ⟨bx, 0, none⟩ = some (.int .i64 p1) ∧ W.cell? ⟨bx, 1, none⟩ = some (.int .i64 p2)) := Lib.hid fun W hg => ⟨(HCG.out W hg).1.qu, (HCG.out W hg).2⟩
      have HCK6 : Hid (∀ W, Kept S1 w1 W → W.cell? ⟨K, 6, none⟩ = some (.pointer (some ⟨Kq, 0, none⟩)) ∧ W.cell? ⟨bx, 0, none⟩ = some (.int .i64 p1) ∧ W.cell? ⟨bx, 1, none⟩ = some (.int .i64 p2)) := Lib.hid fun W hg => by
        have h := HCL.out W (hg.block K hlt1.1 hKS1) (hg.block bx hlt1.2 hbS1)
        exact ⟨h.1.qu, h.2⟩
      have HCT : Hid (∀ W, Grown w1 W → Calls Tryz.prog 34 #[.pointer (some ⟨Kx, 0, none⟩), .agg #[.int .i64 p1, .int .i64 p2]] W fun e w' => e = .returned (.int .i64 cc) ∧ Grown w1 w') := Lib.hid fun W hg => (t3_count (HT2.out.below hg.below) HF.out.1).mono fun e w' he => by rw [HCC.out] at he; exact ⟨he.1, hg.trans he.2⟩
      have hpuI : (putsQ (capT d fun p => getC M.cnt p) (Y.take i) q).pu ≤ 80000 := by
        have h1 := puts_few (t := capT d fun p => getC M.cnt p) (Y := Y) i q
        have := HPU.out
        omega
      obtain ⟨nn, hnn⟩ : ∃ nn, capT d (fun p => getC M.cnt p) (p1, p2) = nn := ⟨_, rfl⟩
      have hnc : nn = if cc < d then 0 else cc := by rw [← hnn, ← hcc]; rfl
      have hnf : FitsN nn := by rw [hnc]; unfold FitsN at f3 ⊢; split <;> omega
      have HPT : Hid (∀ W, Grown w1 W → Calls Tryz.prog 52 #[.pointer (some ⟨Kq, 0, none⟩), .agg #[.int .i64 p1, .int .i64 p2], .int .i64 nn] W fun e w' => e = .returned (.tuple #[]) ∧ T3Step w1 S1 Kx Kq T N J M (putQ (putsQ (capT d fun p => getC M.cnt p) (Y.take i) q) (p1, p2) nn) w') := Lib.hid fun W hg =>
        (t3_put (HT2.out.below hg.below) (p1, p2) nn HF.out.1 HF.out.2.1 hnf hpuI).mono fun e w' he => by
          obtain ⟨e1, S2, a1, a2⟩ := he
          exact ⟨e1, S2, a1, (Stp.of_below hg.below).trans a2⟩
      have HNN := Lib.hid hnn
      have hg0 := Grown.refl w1
      obtain ⟨z0, z1, z2⟩ := HCG5.out w1 hg0
      clear hrow f1 f2 f3 hp hcc hb1 hbx1 t1 t2 s1 hKw1 hKS1 hbS1 hpuI hnn hnf
      go_wp2_with fail
      go_region_held3 (fun w' => w'.cell? ⟨K, 5, none⟩ = some (.pointer (some ⟨Kx, 0, none⟩)) ∧ w'.cell? ⟨bx, 0, none⟩ = some (.int .i64 p1) ∧ w'.cell? ⟨bx, 1, none⟩ = some (.int .i64 p2))
        (first | with_reducible exact ⟨z0, z1, z2⟩ | with_reducible exact HCG5.out _ (by assumption) | with_reducible exact HCG5.out _ (Grown.drew (by assumption)))
        (first
          | (go_at_call 34
             refine (HCT.out _ (by first | assumption | exact Grown.drew (by assumption))).mono ?_
             rintro e w3 ⟨rfl, hg3⟩))
      clear z0 z1 z2
      have c1 := (HCG.out w3 hg3).1.le
      by_cases hcd : cc < d
      · obtain rfl : nn = 0 := by rw [hnc, if_pos hcd]
        have hdd : decide (cc < d) = true := decide_eq_true hcd
        clear hnc
        go_wp2_with fail
        obtain ⟨z0, z1, z2⟩ := HCG6.out w3 hg3
        go_region_held3 (fun w' => w'.cell? ⟨K, 6, none⟩ = some (.pointer (some ⟨Kq, 0, none⟩)) ∧ w'.cell? ⟨bx, 0, none⟩ = some (.int .i64 p1) ∧ w'.cell? ⟨bx, 1, none⟩ = some (.int .i64 p2))
          (first | with_reducible exact ⟨z0, z1, z2⟩ | with_reducible exact HCG6.out _ (by assumption) | with_reducible exact HCG6.out _ (Grown.drew (by assumption)) | with_reducible exact HCK6.out _ hk4.out)
          (first
            | (go_at_call 52
               refine (HPT.out _ (by first | assumption | exact Grown.drew (by assumption))).mono ?_
               rintro e w4 ⟨rfl, hr4⟩
               have HR4 := Lib.hid hr4
               have hk4 : Hid (Kept S1 w1 w4) := Lib.hid (by obtain ⟨_, _, h⟩ := hr4; exact h.kept)
               clear hr4))
        all_goals (go_wp2_with fail)
        all_goals go_roundw
        case rel => exact ⟨i + 1, by simp, by omega, (TrPt.next hiY HS1.out (by
          have h4 := HR4.out
          obtain ⟨S2, a1, a2⟩ := h4
          rw [HP.out, HNN.out]
          exact ⟨S2, a1, (Stp.of_below HB1.out).trans a2⟩))⟩
        case measure => simp [intOf]; omega
      · obtain rfl : nn = cc := by rw [hnc, if_neg hcd]
        have hdd : decide (nn < d) = false := decide_eq_false hcd
        clear hnc
        go_wp2_with fail
        obtain ⟨z0, z1, z2⟩ := HCG6.out w3 hg3
        go_region_held3 (fun w' => w'.cell? ⟨K, 6, none⟩ = some (.pointer (some ⟨Kq, 0, none⟩)) ∧ w'.cell? ⟨bx, 0, none⟩ = some (.int .i64 p1) ∧ w'.cell? ⟨bx, 1, none⟩ = some (.int .i64 p2))
          (first | with_reducible exact ⟨z0, z1, z2⟩ | with_reducible exact HCG6.out _ (by assumption) | with_reducible exact HCG6.out _ (Grown.drew (by assumption)) | with_reducible exact HCK6.out _ hk4.out)
          (first
            | (go_at_call 52
               refine (HPT.out _ (by first | assumption | exact Grown.drew (by assumption))).mono ?_
               rintro e w4 ⟨rfl, hr4⟩
               have HR4 := Lib.hid hr4
               have hk4 : Hid (Kept S1 w1 w4) := Lib.hid (by obtain ⟨_, _, h⟩ := hr4; exact h.kept)
               clear hr4))
        all_goals (go_wp2_with fail)
        all_goals go_roundw
        case rel => exact ⟨i + 1, by simp, by omega, (TrPt.next hiY HS1.out (by
          have h4 := HR4.out
          obtain ⟨S2, a1, a2⟩ := h4
          rw [HP.out, HNN.out]
          exact ⟨S2, a1, (Stp.of_below HB1.out).trans a2⟩))⟩
        case measure => simp [intOf]; omega
    · have hgoI : ¬ (i : Int) < (n : Int) := by omega
      obtain rfl : i = n := by omega
      go_wp2
      refine bodyPost_end (results_none rfl _ _ _) rfl ?_
      exact ⟨rfl, S1, HT1.out, HS1.out⟩
end Go.Proofs.YtnmacalbbmeedaaGreat
/- A learner's own method that learns a pair: it is joined, merged, and what turned by it is put. -/
namespace Go.Proofs.YtnmacalbbmeedaaGreat
open Go.RowKit Go.Maps Go.Shelf

variable {w w' : World} {S : Nat → Prop} {Kx Kq T N K : Nat} {J : List Joint} {M M' : Mdl} {q : Qm} {L : Bag} {d : Int} {ms : List Mg}
set_option maxRecDepth 100000 in
/-- What is told of the pairs whose counts turned. -/
theorem TrAll.row (h : TrAll L d N J M q ms) (hB : bytesOf L ≤ 300) {p : Int × Int} {Y : List (Int × Int)} {had : Int × Int → Int → Prop} (hY : Y.Pairwise pb) (hi : ∀ r, r ∈ Y ↔ getC M'.cnt r ≠ getC M.cnt r) (hw : M'.ws = mergeWs p (newS J) M.ws) (hg : GoodM M' (newS J + 1) had) (hl : lenW M'.ws ≤ 300) :
    (∀ r ∈ Y, FitsPr r ∧ ThereP (moreJ J p) r ∧ FitsN (getC M'.cnt r)) ∧ Y.length ≤ 600 := by
  have hsm := h.small hB
  obtain ⟨had0, hg0⟩ := h.good
  have hall' := good_merge (p := p) h.st.all
  rw [← hw] at hall'
  have hjl := hsm.jl
  have hfew := hsm.few
  refine ⟨fun r hr => ?_, ?_⟩
  · have h3 := (hi r).1 hr
    rw [hg.tells, hg0.tells] at h3
    have ht : ThereP (moreJ J p) r := by
      by_cases e : totW M'.ws r = 0
      · have := counted_there h.st.all (r := r) (by omega)
        exact ⟨there_more this.1, there_more this.2⟩
      · exact counted_there hall' e
    have h4 := tot_sane hall' r
    have h5 := hg.wt
    refine ⟨fits_there ht (by unfold moreJ; rw [List.length_append, List.length_singleton]; omega), ht, ?_⟩
    rw [hg.tells]
    unfold FitsN
    omega
  · have h1 : Y.length ≤ (keysC M.cnt ++ keysC M'.cnt).length := len_sub (pb_nodup hY) fun r hr => by
      have h3 := (hi r).1 hr
      rw [List.mem_append, keys_get hg0.cnt, keys_get hg.cnt, hg0.tells, hg.tells]
      rw [hg.tells, hg0.tells] at h3
      have h4 := (tot_sane hall' r).1
      have h5 := (tot_sane h.st.all r).1
      omega
    have h2 := cn_len hg.cnt hg.pos hg.tells
    have h3 := hsm.cnt
    unfold keysC at h1
    rw [List.length_append, List.length_map, List.length_map] at h1
    omega
/-- Behind it. -/
def TlnRet (w : World) (S : Nat → Prop) (K Kx Kq T : Nat) (J : List Joint) (L : Bag) (b d ps : Int) (ms : List Mg) (p : Int × Int) (e : Ending) (w' : World) : Prop :=
  e = .returned (.tuple #[]) ∧ ∃ S' N' M' q', w'.heap[K]? = some (lrnV Kx T Kq b d ps ((ms.length + 1 : Nat) : Int)) ∧ Tr3 w' S' Kx Kq T N' (moreJ J p) M' q' ∧ TrAll L d N' (moreJ J p) M' q' (ms ++ [mgOf J p]) ∧ Kept (fun k => k = K ∨ S k) w w' ∧ ∀ k, S' k → k < w.heap.size → S k
/-- What Merge told, behind the world w2. -/
structure MgF (w2 : World) (S2 : Nat → Prop) (Kx Kq T N : Nat) (J' : List Joint) (M : Mdl) (q : Qm) (p : Int × Int) (s : Int) (r : Value) (Y : List (Int × Int)) (M' : Mdl) (had : Int × Int → Int → Prop) (S3 : Nat → Prop) (w' : World) : Prop where
  own : ownE pairE w' w2.heap.size r Y
  ris : Y.Pairwise pb
  turn : ∀ q, q ∈ Y ↔ getC M'.cnt q ≠ getC M.cnt q
  tr : Tr3 w' S3 Kx Kq T (N + 3000 * 100) J' M' q
  stp : Stp S2 S3 w2 w'
  out : ∀ g, r.ownBlock = some g → ¬ S3 g
  ws : M'.ws = mergeWs p s M.ws
  good : GoodM M' (s + 1) had
  num : ∃ z, M'.pos = M.pos - z ∧ z + lenW M'.ws = lenW M.ws
  tou : M.tou ≤ M'.tou ∧ M'.tou ≤ M.tou + 100
set_option maxRecDepth 100000 in
set_option maxHeartbeats 8000000 in
theorem tllearn_any {x1 x2 x3 b ps : Int} {l : List Item} {n : Nat} (h : Tr3 w S Kx Kq T N J M (popQ q (some (x1, x2, x3)) l n)) (ha : TrAll L d N J M q ms) (hp : Pops J (fun p => getC M.cnt p) q.ents (some (x1, x2, x3)) l n) (hbox : w.heap[K]? = some (lrnV Kx T Kq b d ps (ms.length : Int))) (hK : ¬ S K) (hB : bytesOf L ≤ 300) (hL : L.length ≤ 60) (hd : 1 ≤ d) :
    Calls Tryz.prog 35 #[.pointer (some ⟨K, 0, none⟩), .agg #[.int .i64 x1, .int .i64 x2]] w (TlnRet w S K Kx Kq T J L b d ps ms (x1, x2)) := by
  obtain ⟨_, ht, hf, _, hj⟩ := ha.best hd hB hp
  have hsm := ha.small hB
  have hKlt := (Array.getElem?_eq_some_iff.1 hbox).1
  obtain ⟨c, hc⟩ : ∃ c : Int, (ms.length : Int) = c := ⟨_, rfl⟩
  rw [hc] at hbox
  have HC := Lib.hid hc
  have hcf := hsm.few
  have hwc : IntKind.i64.wrap (c + 1) = c + 1 := IntWalk.i64_in _ (by omega)
  have HF : Hid (ThereP J (x1, x2) ∧ FitsPr (x1, x2)) := Lib.hid ⟨ht, hf⟩
  have HJ : Hid (joinOf J x1 x2 = ((newS J, 0), moreJ J (x1, x2))) := Lib.hid hj
  have HA := Lib.hid ha; have HP := Lib.hid hp; have HSM := Lib.hid hsm
  have HBD := Lib.hid (And.intro hB (And.intro hL hd))
  have HK := Lib.hid hK
  have HKLT := Lib.hid hKlt
  obtain ⟨had0, hg0⟩ := ha.good
  have HG0 := Lib.hid hg0
  -- the pair's box
  obtain ⟨w1, hw1⟩ : ∃ w1, w.alloc (.cells #[.int .i64 x1, .int .i64 x2] 77) = w1 := ⟨_, rfl⟩
  obtain ⟨bx, hbx⟩ : ∃ bx, w.heap.size = bx := ⟨_, rfl⟩
  have hb1 : Below w.heap.size w w1 := by rw [← hw1]; exact (Below.refl _ _).alloc (Nat.le_refl _) _
  have hbx1 : w1.heap[bx]? = some (.cells #[.int .i64 x1, .int .i64 x2] 77 (0, 0)) := by rw [← hw1, ← hbx]; exact heap_alloc_new _ _
  have HB1 := Lib.hid hb1
  have HT1 := Lib.hid (h.below hb1)
  have hK1 : w1.heap[K]? = some (lrnV Kx T Kq b d ps c) := (hb1.block K hKlt).trans hbox
  have hbS : ¬ S bx := fun e => by have := h.lt bx e; omega
  have HBS := Lib.hid hbS
  have hlt1 : K < w1.heap.size ∧ bx < w1.heap.size := ⟨(Array.getElem?_eq_some_iff.1 hK1).1, (Array.getElem?_eq_some_iff.1 hbx1).1⟩
  have HLT1 := Lib.hid hlt1
  have HK1 := Lib.hid hK1
  have HCL : Hid (∀ W : World, W.heap[K]? = w1.heap[K]? → W.heap[bx]? = w1.heap[bx]? → PutC K Kx T Kq bx b d ps c x1 x2 W) := Lib.hid fun W e1 e2 =>
    ⟨lrnC (e1.trans hK1), by rw [cell_of_row W bx _ _ _ (0, 0) (e2.trans hbx1)]; rfl, by rw [cell_of_row W bx _ _ _ (0, 0) (e2.trans hbx1)]; rfl⟩
  have HCK : Hid (∀ W, Kept S w1 W → PutC K Kx T Kq bx b d ps c x1 x2 W) := Lib.hid fun W hg => HCL.out W (hg.block K hlt1.1 hK) (hg.block bx hlt1.2 hbS)
  have HC4 : Hid (∀ W, Kept S w1 W → W.cell? ⟨K, 4, none⟩ = some (.pointer (some ⟨T, 0, none⟩)) ∧ W.cell? ⟨bx, 0, none⟩ = some (.int .i64 x1) ∧ W.cell? ⟨bx, 1, none⟩ = some (.int .i64 x2)) := Lib.hid fun W hg => ⟨(HCK.out W hg).1.sy, (HCK.out W hg).2⟩
  have HC5 : Hid (∀ W, Kept S w1 W → W.cell? ⟨K, 5, none⟩ = some (.pointer (some ⟨Kx, 0, none⟩)) ∧ W.cell? ⟨bx, 0, none⟩ = some (.int .i64 x1) ∧ W.cell? ⟨bx, 1, none⟩ = some (.int .i64 x2)) := Lib.hid fun W hg => ⟨(HCK.out W hg).1.ix, (HCK.out W hg).2⟩
  have HJN : Hid (∀ W, Grown w1 W → Calls Tryz.prog 56 #[.pointer (some ⟨T, 0, none⟩), .int .i64 x1, .int .i64 x2] W fun e w' => e = .returned (.tuple #[.int .i64 (newS J), .int .i64 0]) ∧ T3Step w1 S Kx Kq T N (moreJ J (x1, x2)) M (popQ q (some (x1, x2, x3)) l n) w') := Lib.hid fun W hg =>
    (t3_join (p := (x1, x2)) (HT1.out.below hg.below) HF.out.2 HJ.out (by have := HSM.out.jl; have := HSM.out.few; omega)).mono fun e w' he => by
      obtain ⟨e1, S2, a1, a2⟩ := he
      exact ⟨e1, S2, a1, (Stp.of_below hg.below).trans a2⟩
  obtain ⟨s, hs⟩ : ∃ s, newS J = s := ⟨_, rfl⟩
  rw [hs] at HJN
  have HS := Lib.hid hs
  have hk0 := Kept.refl S w1
  have hg0' := Grown.refl w1
  obtain ⟨z0, z1, z2⟩ := HC4.out w1 hk0
  clear h ha hp hK hB hL hd ht hf hj hsm hbox hg0 hb1 hbS hlt1 hK1 hbx1 hc hcf hs hKlt
  go_enter Tryz.func35, Tryz.ntmps35
  go_wp2_with fail
  go_region_held3 (fun w' => w'.cell? ⟨K, 4, none⟩ = some (.pointer (some ⟨T, 0, none⟩)) ∧ w'.cell? ⟨bx, 0, none⟩ = some (.int .i64 x1) ∧ w'.cell? ⟨bx, 1, none⟩ = some (.int .i64 x2))
    (first | with_reducible exact ⟨z0, z1, z2⟩ | with_reducible exact HC4.out _ (by assumption) | with_reducible exact HC4.out _ (Kept.drew (by assumption)) | exact HC4.out _ hk2.out)
    (first
      | (go_at_call 56
         refine (HJN.out _ (by first | assumption | exact Grown.drew (by assumption))).mono ?_
         rintro e w2 ⟨rfl, hr2⟩
         have HR2 := Lib.hid hr2
         have hk2 : Hid (Kept S w1 w2) := Lib.hid (by obtain ⟨_, _, h⟩ := hr2; exact h.kept)
         clear hr2))
  obtain ⟨S2, t2, s2⟩ := HR2.out
  have HT2 := Lib.hid t2; have HS2 := Lib.hid s2
  have HMG : Hid (∀ W, Grown w2 W → Calls Tryz.prog 57 #[.pointer (some ⟨Kx, 0, none⟩), .agg #[.int .i64 x1, .int .i64 x2], .int .i64 s] W fun e w' => ∃ z r Y M' had S3, e = .returned (.tuple #[.int .i64 z, r]) ∧ MgF w2 S2 Kx Kq T N (moreJ J (x1, x2)) M (popQ q (some (x1, x2, x3)) l n) (x1, x2) s r Y M' had S3 w') := Lib.hid fun W hg => by
    have hsm := HSM.out
    have h1 := hsm.few
    have h2 := hsm.new
    have h3 := hsm.len
    have h4 := hsm.wds
    have h5 := hsm.pos
    have h6 := hsm.tou
    have h7 := hsm.num
    have h8 := hsm.cnt
    have h9 := HS.out
    have h10 := HBD.out.2.1
    refine (t3_merge (p := (x1, x2)) (s := s) (had := had0) (HT2.out.below hg.below) (by rw [← h9]; exact HG0.out) HF.out.2 (by omega) (by omega) (by omega) (by omega) (by omega) (by omega) (by omega)).mono ?_
    rintro e w' ⟨z, r, Y, M', had, rfl, ho, k1, k2, ⟨S3, k3, k4, k5⟩, k6, k7, k8, k9, k10, k11⟩
    exact ⟨z, r, Y, M', had, S3, rfl, ho.mono hg.below.size, k1, k2, k3, (Stp.of_below hg.below).trans k4, k5, k6, k7, ⟨z, k8, k9⟩, k10, k11⟩
  have hk2' := hk2.out
  have hg2' := Grown.refl w2
  clear z0 z1 z2 t2 s2 hk0 hg0'
  obtain ⟨z0, z1, z2⟩ := HC5.out w2 hk2'
  go_wp2_with fail
  go_region_held3 (fun w' => w'.cell? ⟨K, 5, none⟩ = some (.pointer (some ⟨Kx, 0, none⟩)) ∧ w'.cell? ⟨bx, 0, none⟩ = some (.int .i64 x1) ∧ w'.cell? ⟨bx, 1, none⟩ = some (.int .i64 x2))
    (first | with_reducible exact ⟨z0, z1, z2⟩ | with_reducible exact HC5.out _ (by assumption) | with_reducible exact HC5.out _ (Kept.drew (by assumption)) | exact HC5.out _ hk3.out)
    (first
      | (go_at_call 57
         refine (HMG.out _ (by first | assumption | exact Grown.drew (by assumption))).mono ?_
         rintro e w3 ⟨z, r, Y, M', had, S3, rfl, hm⟩
         have HMF := Lib.hid hm
         have hk3 : Hid (Kept S w1 w3) := Lib.hid (HS2.out.trans hm.stp).kept
         clear hm))
  clear z0 z1 z2 hk2' hg2'
  have HSS : Hid (Stp S S3 w1 w3) := Lib.hid (HS2.out.trans HMF.out.stp)
  have hK3S : ¬ S3 K := fun e => HK.out (HSS.out.out K e HLT1.out.1)
  have hK3 : w3.heap[K]? = some (lrnV Kx T Kq b d ps c) := (hk3.out.block K HLT1.out.1 HK.out).trans HK1.out
  have c3 : w3.cell? ⟨K, 3, none⟩ = some (.int .i64 c) := (lrnC hK3).ro
  have f3 : w3.frozen? ⟨K, 3, none⟩ = false := Lib.frozen_of_heap hK3 _
  obtain ⟨w4, hw4⟩ : ∃ w4, w3.setCell ⟨K, 3, none⟩ (.int .i64 (c + 1)) = w4 := ⟨_, rfl⟩
  have hK4 : w4.heap[K]? = some (lrnV Kx T Kq b d ps (c + 1)) := by rw [← hw4, heap_setCell_at hK3]; rfl
  have hkp4 : Kept (fun k => k = K) w3 w4 := by rw [← hw4]; exact (Kept.refl _ w3).setCell _ _ fun _ => rfl
  have t4 : Tr3 w4 S3 Kx Kq T (N + 3000 * 100) (moreJ J (x1, x2)) M' (popQ q (some (x1, x2, x3)) l n) := HMF.out.tr.kept (fun k a e => hkp4.block k a fun h => hK3S (h ▸ e)) hkp4.size
  have hlen : lenW M'.ws ≤ 300 := by
    have h1 := tr_sum (x1, x2) s M.ws
    have h2 : 0 ≤ sumW (fun x => (timesL (x1, x2) x.1 : Int)) M.ws := sumW_nonneg fun _ _ => by omega
    have h3 := HSM.out.len
    rw [HMF.out.ws]
    omega
  obtain ⟨hY1, hY2⟩ := HA.out.row HBD.out.1 HMF.out.ris HMF.out.turn (by rw [HS.out]; exact HMF.out.ws) (by rw [HS.out]; exact HMF.out.good) hlen
  have hpu : (popQ q (some (x1, x2, x3)) l n).pu ≤ 1500 := HA.out.pu HBD.out.1
  have hK2lt : K < w2.heap.size := Nat.lt_of_lt_of_le HLT1.out.1 HS2.out.kept.size
  have cP := tlput_any (K := K) r Y t4 hK4 hK3S (fun W S' hst => by
    refine (HMF.out.own.kept fun g hg => ?_).reads
    have h1 := HMF.out.own.lt g hg
    have e1 := hst.kept.block g (Nat.lt_of_lt_of_le h1.2 hkp4.size) (HMF.out.out g hg)
    exact e1.trans (hkp4.block g h1.2 fun h => by have h : g = K := h; omega)) hY1 (by omega) (by omega)
  rw [← hw4] at cP
  have HW4 := Lib.hid hw4; have HK4 := Lib.hid hK4; have HP4 := Lib.hid hkp4; have HK3S := Lib.hid hK3S
  clear t4 hY1 hY2 hlen hpu hK2lt hK3 hK4 hkp4 hK3S hw4
  go_wp2_with fail
  refine cP.mono ?_
  rintro e w5 ⟨rfl, hpt⟩
  rw [HW4.out] at hpt
  obtain ⟨S5, t5, s5⟩ := hpt
  rw [List.take_length] at t5
  have HFIN : Hid (TlnRet w S K Kx Kq T J L b d ps ms (x1, x2) (.returned (.tuple #[])) w5) := Lib.hid (by
    have hK4lt := (Array.getElem?_eq_some_iff.1 HK4.out).1
    obtain ⟨z, m1, m2⟩ := HMF.out.num
    refine ⟨rfl, S5, N + 3000 * 100, M', _, ?_, t5, ?_, ?_, fun k h1 h2 => ?_⟩
    · rw [s5.kept.block K hK4lt HK3S.out, HK4.out, ← HC.out]; rfl
    · exact HA.out.step HBD.out.2.2 HBD.out.1 HP.out HMF.out.ris HMF.out.turn (by rw [HS.out]; exact HMF.out.ws) (by rw [HS.out]; exact HMF.out.good) m1 m2 HMF.out.tou.1 HMF.out.tou.2
    · have k1 : Kept (fun k => k = K ∨ S k) w w1 := Kept.of_below HB1.out (Nat.le_refl _)
      have k3 := k1.trans hk3.out fun i _ h => .inr h
      have k4 := k3.trans HP4.out fun i _ h => .inl h
      exact k4.trans s5.kept fun i hi h => .inr (HSS.out.out i h (Nat.lt_of_lt_of_le hi HB1.out.size))
    · have h3 : k < w1.heap.size := Nat.lt_of_lt_of_le h2 HB1.out.size
      exact HSS.out.out k (s5.out k h1 (Nat.lt_of_lt_of_le h3 (Nat.le_trans HSS.out.kept.size HP4.out.size))) h3)
  clear cP t5 s5 c3 f3
  go_wp2
  refine bodyPost_end (results_none rfl _ _ _) rfl ?_
  exact HFIN.out
end Go.Proofs.YtnmacalbbmeedaaGreat
/- Rows of rows in a block that is written place by place. -/
namespace Go.Proofs.YtnmacalbbmeedaaGreat
open Go.RowKit

/-- A row that is filled up to place k. -/
def npfill {α : Type} (z : α) (Z : List α) (k : Nat) : List α := Z.take k ++ List.replicate (Z.length - k) z
set_option maxRecDepth 100000 in
theorem npfill_len {α : Type} {z : α} {Z : List α} {k : Nat} (hk : k ≤ Z.length) : (npfill z Z k).length = Z.length := by
  unfold npfill; rw [List.length_append, List.length_take, List.length_replicate]; omega
set_option maxRecDepth 100000 in
theorem npfill_zero {α : Type} (z : α) (Z : List α) : npfill z Z 0 = List.replicate Z.length z := by simp [npfill]
set_option maxRecDepth 100000 in
theorem npfill_all {α : Type} (z : α) (Z : List α) : npfill z Z Z.length = Z := by simp [npfill]
set_option maxRecDepth 100000 in
theorem npfill_at {α : Type} {z : α} {Z : List α} {k : Nat} (hk : k < Z.length) (h : k < (npfill z Z k).length) : (npfill z Z k)[k] = z := by
  simp only [npfill]
  rw [List.getElem_append_right (by rw [List.length_take]; omega)]
  simp
set_option maxRecDepth 100000 in
theorem npfill_step {α : Type} {z : α} {Z : List α} {k : Nat} (hk : k < Z.length) : (npfill z Z k).set k Z[k] = npfill z Z (k + 1) := by
  unfold npfill
  have e : Z.length - k = (Z.length - (k + 1)) + 1 := by omega
  have hl : (Z.take k).length = k := by rw [List.length_take]; omega
  rw [e, List.replicate_succ, List.set_append_right _ _ (by omega), hl, Nat.sub_self, List.set_cons_zero]
  have e2 : Z.take (k + 1) = Z.take k ++ [Z[k]] := List.take_succ_eq_append_getElem hk
  rw [e2, List.append_assoc]
  rfl
set_option maxRecDepth 100000 in
/-- A store at a place of a row of elements of one cell. -/
theorem rowE.put {α : Type} {R : Elt α} {w : World} {g j : Nat} {L : List α} {u : Value} (h : rowE R w g L) (y : α) (hj : j < L.length) (hn : R.n = 1) (hy : R.enc y = [u]) : rowE R (w.setCell ⟨g, j, none⟩ u) g (L.set j y) := by
  have h1 := R.len L[j]
  have h2 : R.enc y = (R.enc L[j]).set 0 u := by
    rw [hn] at h1
    obtain ⟨c, hc⟩ := List.length_eq_one_iff.1 h1
    rw [hc, hy]
    rfl
  have := h.store (i := 0) y hj (by omega) h2
  rw [hn, Nat.mul_one, Nat.add_zero] at this
  exact this
set_option maxRecDepth 100000 in
theorem rowE.cell {α : Type} {R : Elt α} {w : World} {g j : Nat} {L : List α} {u : Value} (h : rowE R w g L) (hj : j < L.length) (hn : R.n = 1) (hy : R.enc L[j] = [u]) : w.cell? ⟨g, j, none⟩ = some u ∧ w.frozen? ⟨g, j, none⟩ = false := by
  have := h.cells (i := 0) hj (by omega)
  rw [hn, Nat.mul_one, Nat.add_zero, hy] at this
  exact this
/-- Block g is a row of rows of texts, each of the call's own from base on. -/
def rowsG (w : World) (base g : Nat) (WW : List (List ByteArray)) : Prop := base ≤ g ∧ ∃ E : List Hs, E.length = WW.length ∧ rowE slTE w g E ∧ ∀ i (h : i < E.length) (h' : i < WW.length), ownE textE w base (hsV E[i]) WW[i]
variable {w w' : World} {base g : Nat} {WW : List (List ByteArray)}
set_option maxRecDepth 100000 in
theorem rowsG.lt (h : rowsG w base g WW) : g < w.heap.size := by obtain ⟨_, E, _, h2, _⟩ := h; exact h2.lt
set_option maxRecDepth 100000 in
theorem rowsG.below (h : rowsG w base g WW) (hb : Below w.heap.size w w') : rowsG w' base g WW := by
  obtain ⟨h0, E, h1, h2, h3⟩ := h
  exact ⟨h0, E, h1, h2.kept (hb.block g h2.lt), fun i a b => (h3 i a b).below hb⟩
set_option maxRecDepth 100000 in
theorem rowsG.reads (h : rowsG w base g WW) (hl : WW.length ≤ maxLen) : rowsT w (.slice (some ⟨g, 0, none⟩) WW.length WW.length) WW := by
  obtain ⟨h0, E, h1, h2, h3⟩ := h
  have h4 := (h2.own h0 (by omega)).reads
  rw [h1] at h4
  exact ⟨E, h1, h4, fun i a b => ⟨(h3 i a b).reads, (h3 i a b).nilNone⟩⟩
set_option maxRecDepth 100000 in
/-- What turns a block of another type alone. -/
theorem rowsG.kept (h : rowsG w base g WW) (hk : ∀ (j : Nat) (cs : Array Value) (t : TypeId), w.heap[j]? = some (Obj.cells cs t (0, 0)) → t = slTE.ty ∨ t = textE.ty → w'.heap[j]? = w.heap[j]?) : rowsG w' base g WW := by
  obtain ⟨h0, E, h1, h2, h3⟩ := h
  obtain ⟨cs, hc, _⟩ := id h2
  exact ⟨h0, E, h1, h2.kept (hk g cs _ hc (.inl rfl)), fun i a b => (h3 i a b).kept fun j hj => by
    obtain ⟨c, hc⟩ := (h3 i a b).block j hj
    exact hk j c _ hc (.inr rfl)⟩
set_option maxRecDepth 100000 in
theorem rowsG.put (h : rowsG w base g WW) {i : Nat} (hi : i < WW.length) {ra : Option Addr} {rc : Nat} {X : List ByteArray} (hx : ownE textE w base (.slice ra X.length rc) X) : rowsG (w.setCell ⟨g, i, none⟩ (.slice ra X.length rc)) base g (WW.set i X) := by
  obtain ⟨h0, E, h1, h2, h3⟩ := h
  obtain ⟨cs, hc, _⟩ := id h2
  have kp : ∀ {v : Value} {A : List ByteArray}, ownE textE w base v A → ownE textE (w.setCell ⟨g, i, none⟩ (.slice ra X.length rc)) base v A := fun h => h.kept fun j hj => Below.heap_setCell _ ⟨g, i, none⟩ _ j fun e => by
    obtain ⟨c, hc2⟩ := h.block j hj
    rw [show j = g from e, hc] at hc2
    injection hc2 with hc2
    injection hc2 with _ hc2
    exact absurd hc2 (by decide)
  refine ⟨h0, E.set i (ra, X.length, rc), by simp [h1], h2.put (ra, X.length, rc) (by omega) rfl rfl, fun j a b => ?_⟩
  by_cases e : i = j
  · subst e
    rw [List.getElem_set_self, List.getElem_set_self]
    exact kp hx
  · rw [List.getElem_set_ne e, List.getElem_set_ne e]
    exact kp (h3 j (by simpa using a) (by simpa using b))
set_option maxRecDepth 100000 in
theorem rowsG.cell (h : rowsG w base g WW) {i : Nat} (hi : i < WW.length) : (∃ v, w.cell? ⟨g, i, none⟩ = some v) ∧ w.frozen? ⟨g, i, none⟩ = false := by
  obtain ⟨h0, E, h1, h2, h3⟩ := h
  obtain ⟨a, b⟩ := h2.cell (j := i) (by omega) rfl rfl
  exact ⟨⟨_, a⟩, b⟩
end Go.Proofs.YtnmacalbbmeedaaGreat
