/- Pop of the document's queue. (The text of its drawn regions by wip/tools/gen_xpop.py.) -/
import Derived.Test.YtbnekkcjkdghcaaGA
import Derived.Test.YtbnekkcjkdghcaaGB
import Derived.Test.YtbnekkcjkdghcaaGC
import Derived.Deep.LoopGhost
namespace Go.Proofs.Ytbnekkcjkdghcaa
open Go.RowKit Go.Maps Go.Shelf
open Go.Sort (grow grow_empty grow_grow alloc_eq_grow heap_grow_old)
variable {w w' wa wr : World} {X T : Nat} {tv tp pv nv kv ku : Value} {J : List Joint} {P P' : List (Int × Int)} {C C' : List Int} {M : Cn} {pu po pk re : Int} {f : Int × Int → Int}

/-- What Pop tells. -/
def xpopV : Option Item → Value
  | .none => .tuple #[.agg #[.int .i64 0, .int .i64 0], .int .i64 0, .bool false]
  | .some x => .tuple #[.agg #[.int .i64 x.1, .int .i64 x.2.1], .int .i64 x.2.2, .bool true]
/-- What is known behind it. -/
def dropM (M : Cn) : Option Item → Cn
  | .none => M
  | .some x => delC M (pairI x)
def XPopRet (w : World) (X T : Nat) (tv tp pv nv kv ku : Value) (J : List Joint) (P : List (Int × Int)) (C : List Int) (M : Cn) (pu po pk re : Int) (f : Int × Int → Int) (e : Ending) (w' : World) : Prop :=
  ∃ o P' C' n, Pops J f (zipQ P C) o (zipQ P' C') n ∧ C'.length = P'.length ∧ e = .returned (xpopV o) ∧ XRet w X T tv tp pv nv kv ku J P' C' (dropM M o) pu (po + (n : Int)) pk re w'
/-- So far: n entries were taken, none was live. -/
structure XpS (wa : World) (X T : Nat) (tv tp pv nv kv ku : Value) (J : List Joint) (P : List (Int × Int)) (C : List Int) (M : Cn) (pu po pk re : Int) (f : Int × Int → Int) (Pi : List (Int × Int)) (Ci : List Int) (n : Nat) (wr : World) : Prop where
  ret : XRet wa X T tv tp pv nv kv ku J Pi Ci M pu (po + (n : Int)) pk re wr
  len : Ci.length = Pi.length
  few : Pi.length + n = P.length
  pops : ∀ o l k, Pops J f (zipQ Pi Ci) o l k → Pops J f (zipQ P C) o l (k + n)
def XpRel (wa : World) (X T : Nat) (tv tp pv nv kv ku : Value) (J : List Joint) (P : List (Int × Int)) (C : List Int) (M : Cn) (pu po pk re : Int) (f : Int × Int → Int) (kx : Nat) (wr : World) : Prop :=
  ∃ Pi Ci n, Pi.length ≤ kx ∧ XpS wa X T tv tp pv nv kv ku J P C M pu po pk re f Pi Ci n wr
/-- The best one so far. -/
def InRel (J : List Joint) (Z : List Item) (l : Nat) (wo : World) (b i : Value) (wr : World) : Prop := ∃ bn inn : Nat, b = .int .i64 (bn : Int) ∧ i = .int .i64 (inn : Int) ∧ inn ≤ l ∧ BestTo J Z bn inn ∧ Grown wo wr
set_option maxRecDepth 100000 in
theorem XRet.kept (h : XRet w X T tv tp pv nv kv ku J P C M pu po pk re w') : Kept (mineX X pv nv kv ku) w w' := by
  obtain ⟨_, _, _, _, _, k2, _⟩ := h
  exact k2
set_option maxRecDepth 100000 in
/-- The entries' cells, in whatever world has grown since. -/
theorem XqIn.entry (h : XqIn wr X T tv tp pv nv kv ku J P C M pu po pk re) (hl : C.length = P.length) (h0 : 0 < P.length) : ∃ ad cp an cn, pv = .slice (some ad) P.length cp ∧ nv = .slice (some an) P.length cn ∧ P.length ≤ cp ∧ P.length ≤ cn ∧
    ∀ i W, i < P.length → Below wr.heap.size wr W → W.cell? (ad.add (i * 2)) = some (.int .i64 (itAt (zipQ P C) i).1) ∧ W.cell? ⟨(ad.add (i * 2)).block, (ad.add (i * 2)).off + 1, none⟩ = some (.int .i64 (itAt (zipQ P C) i).2.1) ∧ W.cell? (an.add i) = some (.int .i64 (itAt (zipQ P C) i).2.2) := by
  obtain ⟨a1, c1, rfl, k1⟩ := h.rows.form
  obtain ⟨a2, c2, e2, k2⟩ := h.nums.form
  rw [hl] at e2 k2
  subst e2
  obtain ⟨g1, rfl, _⟩ := ownE_some h.rows (by omega)
  obtain ⟨g2, rfl, _⟩ := ownE_some (M := C) h.nums (by omega)
  refine ⟨_, c1, _, c2, rfl, rfl, k1, k2, fun i W hi hW => ?_⟩
  have hy : i < C.length := by omega
  rw [itAt_get (by rw [zipQ_len hl]; exact hi), zipQ_get hl hi]
  have hn := h.nums.reads
  rw [← hl] at hn
  obtain ⟨x0, x1⟩ := pairs_at h.rows.reads hW hi
  exact ⟨x0, x1, ints_cell hn hW hy⟩
set_option maxRecDepth 100000 in
theorem results_cell_two {fn : Func} {p u t : Tmp} {ty : TypeId} (h : fn.results = #[.cell p ty, .tmp u, .tmp t]) (tmps : Array Value) (P : Program) (w : World) :
    (results fn tmps).run P w =
      ((asAddr (tmps.getD p undef)).run P w).andThen fun a w₁ => ((loadVar ty a).run P w₁).andThen fun v w₂ => .ok (.tuple #[v, tmps.getD u undef, tmps.getD t undef]) w₂ := by
  simp only [results, h]
  simp [Sem.run_bind, Result.andThen]
set_option maxRecDepth 100000 in
/-- The result's box is written over. -/
theorem XRet.boxed {Nr : Nat} (h : XRet wa X T tv tp pv nv kv ku J P C M pu po pk re wr) (hb : Below w.heap.size w wa) (hN : w.heap.size ≤ Nr) (hNa : Nr < wa.heap.size) (hm : ¬ mineX X pv nv kv ku Nr) (hT : ¬ mineR T tv tp Nr) (a b : Value) :
    XRet w X T tv tp pv nv kv ku J P C M pu po pk re ((wr.setCell ⟨Nr, 0, none⟩ a).setCell ⟨Nr, 1, none⟩ b) := by
  obtain ⟨pv1, nv1, kv1, ku1, k1, k2, k3⟩ := h
  have hne : ∀ k, k ≠ Nr → ((wr.setCell ⟨Nr, 0, none⟩ a).setCell ⟨Nr, 1, none⟩ b).heap[k]? = wr.heap[k]? := fun k hk1 => by rw [Below.heap_setCell _ ⟨Nr, 1, none⟩ _ k hk1, Below.heap_setCell _ ⟨Nr, 0, none⟩ _ k hk1]
  refine ⟨pv1, nv1, kv1, ku1, k1.kept fun k _ h2 => hne k ?_, ?_, fun k e1 e2 => k3 k e1 (Nat.lt_of_lt_of_le e2 hb.size)⟩
  · rintro rfl
    rcases h2 with h2 | h2
    · exact hm (k3 k h2 hNa)
    · exact hT h2
  · exact (((Kept.of_below (S := mineX X pv nv kv ku) hb (Nat.le_refl _)).trans k2 fun _ _ h => h).setCell ⟨Nr, 0, none⟩ _ fun h => by have h' : Nr < w.heap.size := h; omega).setCell ⟨Nr, 1, none⟩ _ fun h => by have h' : Nr < w.heap.size := h; omega
/-- What the region that names an entry reads. -/
abbrev AtE (X : Nat) (ad an : Addr) (l cp cn b : Nat) (q1 q2 q3 : Int) (W : World) : Prop := W.cell? ⟨X, 1, none⟩ = some (.slice (some ad) l cp) ∧ W.cell? ⟨X, 2, none⟩ = some (.slice (some an) l cn) ∧ W.cell? (ad.add (b * 2)) = some (.int .i64 q1) ∧ W.cell? ⟨(ad.add (b * 2)).block, (ad.add (b * 2)).off + 1, none⟩ = some (.int .i64 q2) ∧ W.cell? (an.add b) = some (.int .i64 q3)
/-- What the regions that cut read. -/
abbrev AtC (X i : Nat) (v : Value) (W : World) : Prop := W.cell? ⟨X, i, none⟩ = some v ∧ W.frozen? ⟨X, i, none⟩ = false
set_option maxRecDepth 100000 in
set_option maxHeartbeats 16000000 in
theorem xpop_any {Kl Nl : Nat} {v u : Value} {L : Cn} (h : XqIn w X T tv tp pv nv kv ku J P C M pu po pk re) (hv : LvIn w Kl Nl v u L) (hap : ∀ k, mineX X pv nv kv ku k → ¬ mineV Kl Nl v u k) (hPC : C.length = P.length) (hPl : P.length ≤ 1000) (hMl : M.length ≤ 1000) (hpo : 0 ≤ po ∧ po ≤ 100000) :
    Calls Try.prog 16 #[.pointer (some ⟨X, 0, none⟩), .pointer (some ⟨Kl, 0, none⟩)] w (XPopRet w X T tv tp pv nv kv ku J P C M pu po pk re (getC L)) := by
  obtain ⟨Nr, hNr⟩ : ∃ Nr, w.heap.size = Nr := ⟨_, rfl⟩
  obtain ⟨wa, hwa⟩ : ∃ wa, w.alloc (.cells #[.int .i64 0, .int .i64 0] 41) = wa := ⟨_, rfl⟩
  have hga : Grown w wa := by rw [← hwa]; exact (Grown.refl w).alloc _
  have hba : wa.heap[Nr]? = some (.cells #[.int .i64 0, .int .i64 0] 41 (0, 0)) := by rw [← hwa, ← hNr]; exact heap_alloc_new w _
  have ha := h.grown hga
  have HLV : Hid (∀ W, Kept (mineX X pv nv kv ku) wa W → LvIn W Kl Nl v u L) := Lib.hid fun W hk => (hv.kept fun k a _ => hga.below.block k a).kept fun k h1 h2 => hk.block k h1 fun h3 => hap k h3 h2
  have HNA : Hid (Nr < wa.heap.size ∧ ¬ mineX X pv nv kv ku Nr) := Lib.hid ⟨(Array.getElem?_eq_some_iff.1 hba).1, fun e => by have := h.lt Nr (.inl e); omega⟩
  have HST : Hid (XpRel wa X T tv tp pv nv kv ku J P C M pu po pk re (getC L) P.length wa) := Lib.hid ⟨P, C, 0, Nat.le_refl _, by simpa using XRet.refl ha, hPC, rfl, fun _ _ _ h => h⟩
  have HGA := Lib.hid hga
  have HBA := Lib.hid hba
  have HGJ := Lib.hid h.gj
  have HJ : Hid (J.length ≤ 1000000) := Lib.hid h.few
  have HNR := Lib.hid hNr
  have HTN : Hid (¬ mineR T tv tp Nr) := Lib.hid fun e => by have := h.lt Nr (.inr e); omega
  have hmixed : Try.prog.follows .mixedOrders = true := by kernel_rfl
  clear h hv hap hga hba ha hPC
  go_enter Try.func16, Try.ntmps16
  go_wp2_with fail
  go_loopg [] P.length (fun kx wr => XpRel wa X T tv tp pv nv kv ku J P C M pu po pk re (getC L) kx wr)
  case atStart => exact HST.out
  case round =>
    clear HST hwa
    obtain ⟨Pi, Ci, n, hkx, hs⟩ := hrel
    have HS := Lib.hid hs
    have HKX := Lib.hid hkx
    have hlen := hs.len
    have hfew := hs.few
    obtain ⟨pv1, nv1, kv1, ku1, hx, hk1, ho1⟩ := hs.ret
    have hNb := (hk1.block Nr HNA.out.1 HNA.out.2).trans HBA.out
    have HX := Lib.hid hx
    have HSX := Lib.hid (And.intro hk1 ho1)
    have HNB := Lib.hid hNb
    obtain ⟨x0, x1, x2, _, _, _, _, _, _, _, _⟩ := hx.cells
    obtain ⟨a1, c1, e1, k1⟩ := hx.rows.form
    rw [e1] at x1
    by_cases hz : Pi.length = 0
    · rw [hz] at x1
      have e0 : wr.cell? ⟨Nr, 0, none⟩ = some (.int .i64 0) := by rw [cell_of_row wr Nr _ _ 41 (0, 0) hNb]; rfl
      have e1 : wr.cell? ⟨Nr, 1, none⟩ = some (.int .i64 0) := by rw [cell_of_row wr Nr _ _ 41 (0, 0) hNb]; rfl
      have f0 : wr.frozen? ⟨Nr, 0, none⟩ = false := Lib.frozen_of_heap hNb _
      have f1 : wr.frozen? ⟨Nr, 1, none⟩ = false := Lib.frozen_of_heap hNb _
      clear hs hk1 ho1 hNb hx hlen hfew k1 hkx x0 x2
      go_wp2
      have h0 := heap_setCell_at (heap_setCell_at HNB.out (i := 0) (.int .i64 0)) (i := 1) (.int .i64 0)
      have z0 := cell_of_row _ Nr 0 _ 41 (0, 0) h0
      have z1 := cell_of_row _ Nr 1 _ 41 (0, 0) h0
      refine bodyPost_ret (v := .tuple #[.agg #[.int .i64 0, .int .i64 0], .int .i64 0, .bool false]) (by rw [results_cell_two rfl]; simp [go_sem, z0, z1]) rfl ?_
      obtain rfl : Pi = [] := List.eq_nil_of_length_eq_zero hz
      obtain rfl : Ci = [] := List.eq_nil_of_length_eq_zero HS.out.len
      exact ⟨.none, [], [], 0 + n, HS.out.pops _ _ _ .none, rfl, rfl, by
        have := HS.out.ret.boxed HGA.out.below (Nat.le_of_eq HNR.out) HNA.out.1 HNA.out.2 HTN.out (.int .i64 0) (.int .i64 0)
        rw [Nat.zero_add]
        exact this⟩
    · obtain ⟨l, hl⟩ : ∃ l, Pi.length = l := ⟨_, rfl⟩
      obtain ⟨Z, hZ⟩ : ∃ Z, zipQ Pi Ci = Z := ⟨_, rfl⟩
      rw [hl] at x1
      have hl0 : (0 : Int) < (l : Int) := by omega
      have hl1 : l ≤ 1000 := by omega
      have hd0 : decide (0 < l) = true := decide_eq_true (by omega)
      have hd1 : decide ((0 : Int) < (l : Int)) = true := decide_eq_true hl0
      have HZ := Lib.hid (And.intro hZ hl)
      have HLEN : Hid (Ci.length = Pi.length) := Lib.hid hlen
      have HFEW := Lib.hid hfew
      have HSTART : Hid (InRel J Z l wr (.int .i64 0) (.int .i64 1) wr) := Lib.hid ⟨0, 1, rfl, rfl, by omega, best_start J Z, Grown.refl wr⟩
      obtain ⟨wo, hwo⟩ : ∃ wo, wo = wr := ⟨_, rfl⟩
      subst hwo
      clear hs hk1 ho1 hNb hx hlen hfew k1 hkx hz e1 hl hZ
      go_wp2
      go_loopw [7, 8] (fun b i wr => InRel J Z l wo b i wr) (fun _ i _ => l + 1 - (intOf i).toNat)
      case atStart => exact HSTART.out
      case round =>
        obtain ⟨b, i, rfl, rfl, hil, hbest, hgr⟩ := hrel
        have HBW : Hid (Below wo.heap.size wo wr) := Lib.hid hgr.below
        have HGR := Lib.hid hgr
        have HBE := Lib.hid hbest
        have hbi := hbest.1
        obtain ⟨ad, cp, an, cn, e1, e2, k1, k2, hent⟩ := HX.out.entry HLEN.out (by rw [HZ.out.2]; omega)
        rw [HZ.out.1, HZ.out.2] at hent
        rw [HZ.out.2] at e1 e2 k1 k2
        by_cases hgo : i < l
        · have hgoI : (i : Int) < (l : Int) := by omega
          have hbI : (b : Int) < (l : Int) := by omega
          have hbl : b < l := by omega
          have key : ∀ n os, Below wo.heap.size wo (grow (wr.drewN n) os) := fun n os => HBW.out.trans ((Grown.of wr n os).below.mono HBW.out.size)
          obtain ⟨⟨p1, p2, p3⟩, hp⟩ : ∃ q, itAt Z i = q := ⟨_, rfl⟩
          obtain ⟨⟨q1, q2, q3⟩, hq⟩ : ∃ q, itAt Z b = q := ⟨_, rfl⟩
          have l0 : ∀ n os, (grow (wr.drewN n) os).cell? (ad.add (i * 2)) = some (.int .i64 p1) := fun n os => by have := (hent i _ hgo (key n os)).1; rw [hp] at this; exact this
          have l1 : ∀ n os, (grow (wr.drewN n) os).cell? ⟨(ad.add (i * 2)).block, (ad.add (i * 2)).off + 1, none⟩ = some (.int .i64 p2) := fun n os => by have := (hent i _ hgo (key n os)).2.1; rw [hp] at this; exact this
          have l2 : ∀ n os, (grow (wr.drewN n) os).cell? (an.add i) = some (.int .i64 p3) := fun n os => by have := (hent i _ hgo (key n os)).2.2; rw [hp] at this; exact this
          have l3 : ∀ n os, (grow (wr.drewN n) os).cell? (ad.add (b * 2)) = some (.int .i64 q1) := fun n os => by have := (hent b _ hbl (key n os)).1; rw [hq] at this; exact this
          have l4 : ∀ n os, (grow (wr.drewN n) os).cell? ⟨(ad.add (b * 2)).block, (ad.add (b * 2)).off + 1, none⟩ = some (.int .i64 q2) := fun n os => by have := (hent b _ hbl (key n os)).2.1; rw [hq] at this; exact this
          have l5 : ∀ n os, (grow (wr.drewN n) os).cell? (an.add b) = some (.int .i64 q3) := fun n os => by have := (hent b _ hbl (key n os)).2.2; rw [hq] at this; exact this
          have y0 : ∀ n os, (grow (wr.drewN n) os).cell? ⟨X, 0, none⟩ = some (.pointer (some ⟨T, 0, none⟩)) := fun n os => (HX.out.below (key n os)).cells.1
          have y1 : ∀ n os, (grow (wr.drewN n) os).cell? ⟨X, 1, none⟩ = some (.slice (some ad) l cp) := fun n os => by have := (HX.out.below (key n os)).cells.2.1; rw [e1] at this; exact this
          have y2 : ∀ n os, (grow (wr.drewN n) os).cell? ⟨X, 2, none⟩ = some (.slice (some an) l cn) := fun n os => by have := (HX.out.below (key n os)).cells.2.2.1; rw [e2] at this; exact this
          have z1 : wr.cell? ⟨X, 1, none⟩ = some (.slice (some ad) l cp) := by have := (HX.out.below HBW.out).cells.2.1; rw [e1] at this; exact this
          have cG : ∀ n os, Calls Try.prog 35 #[.pointer (some ⟨T, 0, none⟩), .agg #[.int .i64 p1, .int .i64 p2], .int .i64 p3, .agg #[.int .i64 q1, .int .i64 q2], .int .i64 q3] (grow (wr.drewN n) os) fun e w'' => e = .returned (.bool (betterOf J (p1, p2, p3) (q1, q2, q3))) ∧ ∃ p : GrownBy, w'' = grow (wr.drewN p.n) p.os := fun n os => Calls.grown_of (rbetter_any 0 T tv tp J p1 p2 p3 q1 q2 q3 _ (HX.out.below (key n os)).tab HGJ.out HJ.out)
          have HBT : Hid (betterOf J (itAt Z i) (itAt Z b) = betterOf J (p1, p2, p3) (q1, q2, q3)) := Lib.hid (by rw [hp, hq])
          have hwi : IntKind.i64.wrap ((i : Int) + 1) = (i : Int) + 1 := IntWalk.i64_in _ (by omega)
          clear key hp hq hent e1 e2 k1 k2 hbest hgr x0 x1 x2
          cases tb : betterOf J (p1, p2, p3) (q1, q2, q3) with
          | true =>
            rw [tb] at cG HBT
            go_wp2_with fail
            go_quiet_grown (first | (go_at_call 35; refine cG _ _))
            have HGZ : Hid (Grown wo (grow (wr.drewN nq) osq)) := Lib.hid (HGR.out.trans (Grown.of _ _ _))
            clear l0 l1 l2 l3 l4 l5 y0 y1 y2 z1 cG
            generalize grow (wr.drewN nq) osq = wz at *
            go_wp2
            go_roundw
            case rel => exact ⟨i, i + 1, rfl, by simp, by omega, HBE.out.turn HBT.out, HGZ.out⟩
            case measure => simp [intOf]; omega
          | false =>
            rw [tb] at cG HBT
            go_wp2_with fail
            go_quiet_grown (first | (go_at_call 35; refine cG _ _))
            have HGZ : Hid (Grown wo (grow (wr.drewN nq) osq)) := Lib.hid (HGR.out.trans (Grown.of _ _ _))
            clear l0 l1 l2 l3 l4 l5 y0 y1 y2 z1 cG
            generalize grow (wr.drewN nq) osq = wz at *
            go_wp2
            go_roundw
            case rel => exact ⟨b, i + 1, rfl, by simp, by omega, HBE.out.keep HBT.out, HGZ.out⟩
            case measure => simp [intOf]; omega
        · have hil2 : l = i := by omega
          subst hil2
          have hbl : b < l := by omega
          have hbI : (b : Int) < (l : Int) := by omega
          obtain ⟨⟨q1, q2, q3⟩, hq⟩ : ∃ q, itAt Z b = q := ⟨_, rfl⟩
          subst e1
          subst e2
          have HAE : Hid (∀ W, Below wo.heap.size wo W → AtE X ad an l cp cn b q1 q2 q3 W) := Lib.hid fun W hW => by
            have h1 := hent b W hbl hW
            rw [hq] at h1
            have h2 := (HX.out.below hW).cells
            exact ⟨h2.2.1, h2.2.2.1, h1.1, h1.2.1, h1.2.2⟩
          obtain ⟨l1, hl1'⟩ : ∃ l1, l1 + 1 = l := ⟨l - 1, by omega⟩
          have HLB : Hid (Z[b]? = some (q1, q2, q3) ∧ b < Z.length ∧ Z.length = l) := Lib.hid (by
            have hzl : Z.length = l := by rw [← HZ.out.1, zipQ_len HLEN.out, HZ.out.2]
            have : b < Z.length := by omega
            refine ⟨?_, this, hzl⟩
            rw [List.getElem?_eq_getElem this, ← itAt_get this, hq])
          have HCAP := Lib.hid (And.intro k1 k2)
          have HBL : Hid (b < l ∧ l1 + 1 = l) := Lib.hid ⟨hbl, hl1'⟩
          have HCL : Hid ((Pi.take b ++ Pi.drop (b + 1)).length = l1) := Lib.hid (by rw [List.length_append, List.length_take, List.length_drop, HZ.out.2]; omega)
          have HCM : Hid ((Ci.take b ++ Ci.drop (b + 1)).length = l1) := Lib.hid (by rw [List.length_append, List.length_take, List.length_drop, HLEN.out, HZ.out.2]; omega)
          have HTL : Hid ((Pi.take b).length ≤ 1000) := Lib.hid (by rw [List.length_take]; omega)
          have HDL : Hid ((Pi.drop (b + 1)).length ≤ 1000) := Lib.hid (by rw [List.length_drop, HZ.out.2]; omega)
          have HIL : Hid ((Ci.take b).length ≤ 1000) := Lib.hid (by rw [List.length_take]; omega)
          have HJL : Hid ((Ci.drop (b + 1)).length ≤ 1000) := Lib.hid (by rw [List.length_drop, HLEN.out, HZ.out.2]; omega)
          obtain ⟨wq, hwq⟩ : ∃ wq, wq = wr := ⟨_, rfl⟩
          subst hwq
          have HBQ := HBW
          have hwb : IntKind.i64.wrap ((b : Int) + 1) = (b : Int) + 1 := IntWalk.i64_in _ (by omega)
          have z1 := (HAE.out _ HBQ.out).1
          clear hent hq hbest hgr x0 x1 x2 hl1' k1 k2 hbl hgo hil hbi
          go_wp2_with fail
          have hS8 : AtE X ad an l cp cn b q1 q2 q3 wq.drew := HAE.out _ HBQ.out.drew
          refine region_K (S := AtE X ad an l cp cn b q1 q2 q3) [] hmixed ?_
          obtain ⟨W0, hW0⟩ : ∃ W0, wq.drew = W0 := ⟨_, rfl⟩
          have hB0 : Below wo.heap.size wo W0 := by rw [← hW0]; exact HBQ.out.drew
          rw [hW0] at hS8 ⊢
          clear hW0
          refine K_at (i := 0) (oi := _) (v := ?_) rfl (by kernel_rfl) (by kernel_rfl) (by kernel_rfl) (by kernel_rfl) (fun _ _ _ h => h) (Or.inl ⟨by rfl, ?_⟩) (by assumption) ?_
          rotate_left
          · (intro w hSw; (try dsimp only at hSw); go_simp; try with_reducible rfl)
          try simp only [Act.put, List.setIfInBounds_toArray, List.set_cons_zero, List.set_cons_succ]
          refine K_at (i := 1) (oi := _) (v := ?_) rfl (by kernel_rfl) (by kernel_rfl) (by kernel_rfl) (by kernel_rfl) (fun _ _ _ h => h) (Or.inl ⟨by rfl, ?_⟩) (by assumption) ?_
          rotate_left
          · (intro w hSw; (try dsimp only at hSw); go_simp; try with_reducible rfl)
          try simp only [Act.put, List.setIfInBounds_toArray, List.set_cons_zero, List.set_cons_succ]
          refine K_at (i := 2) (oi := _) (v := ?_) rfl (by kernel_rfl) (by kernel_rfl) (by kernel_rfl) (by kernel_rfl) (fun _ _ _ h => h) (Or.inl ⟨by rfl, ?_⟩) (by assumption) ?_
          rotate_left
          · (intro w hSw; (try dsimp only at hSw); go_simp; try with_reducible rfl)
          try simp only [Act.put, List.setIfInBounds_toArray, List.set_cons_zero, List.set_cons_succ]
          refine K_at (i := 3) (oi := _) (v := ?_) rfl (by kernel_rfl) (by kernel_rfl) (by kernel_rfl) (by kernel_rfl) (fun _ _ _ h => h) (Or.inl ⟨by rfl, ?_⟩) (by assumption) ?_
          rotate_left
          · (intro w hSw; (try dsimp only at hSw); go_simp; try with_reducible rfl)
          try simp only [Act.put, List.setIfInBounds_toArray, List.set_cons_zero, List.set_cons_succ]
          refine K_at (i := 4) (oi := _) (v := ?_) rfl (by kernel_rfl) (by kernel_rfl) (by kernel_rfl) (by kernel_rfl) (fun _ _ _ h => h) (Or.inl ⟨by rfl, ?_⟩) (by assumption) ?_
          rotate_left
          · (intro w hSw; (try dsimp only at hSw); go_simp; try with_reducible rfl)
          try simp only [Act.put, List.setIfInBounds_toArray, List.set_cons_zero, List.set_cons_succ]
          refine K_at (i := 5) (oi := _) (v := ?_) rfl (by kernel_rfl) (by kernel_rfl) (by kernel_rfl) (by kernel_rfl) (fun _ _ _ h => h) (Or.inl ⟨by rfl, ?_⟩) (by assumption) ?_
          rotate_left
          · (intro w hSw; (try dsimp only at hSw); go_simp; try with_reducible rfl)
          try simp only [Act.put, List.setIfInBounds_toArray, List.set_cons_zero, List.set_cons_succ]
          refine K_at (i := 6) (oi := _) (v := ?_) rfl (by kernel_rfl) (by kernel_rfl) (by kernel_rfl) (by kernel_rfl) (fun _ _ _ h => h) (Or.inl ⟨by rfl, ?_⟩) (by assumption) ?_
          rotate_left
          · (intro w hSw; (try dsimp only at hSw); go_simp; try with_reducible rfl)
          try simp only [Act.put, List.setIfInBounds_toArray, List.set_cons_zero, List.set_cons_succ]
          refine K_at (i := 7) (oi := _) (v := ?_) rfl (by kernel_rfl) (by kernel_rfl) (by kernel_rfl) (by kernel_rfl) (fun _ _ _ h => h) (Or.inl ⟨by rfl, ?_⟩) (by assumption) ?_
          rotate_left
          · (intro w hSw; (try dsimp only at hSw); go_simp; try with_reducible rfl)
          try simp only [Act.put, List.setIfInBounds_toArray, List.set_cons_zero, List.set_cons_succ]
          refine K_at (i := 8) (oi := _) (v := ?_) rfl (by kernel_rfl) (by kernel_rfl) (by kernel_rfl) (by kernel_rfl) (fun _ _ _ h => h) (Or.inl ⟨by rfl, ?_⟩) (by assumption) ?_
          rotate_left
          · (intro w hSw; (try dsimp only at hSw); go_simp; try with_reducible rfl)
          try simp only [Act.put, List.setIfInBounds_toArray, List.set_cons_zero, List.set_cons_succ]
          refine K_at (i := 9) (oi := _) (v := ?_) rfl (by kernel_rfl) (by kernel_rfl) (by kernel_rfl) (by kernel_rfl) (fun _ _ _ h => h) (Or.inl ⟨by rfl, ?_⟩) (by assumption) ?_
          rotate_left
          · (intro w hSw; (try dsimp only at hSw); go_simp; try with_reducible rfl)
          try simp only [Act.put, List.setIfInBounds_toArray, List.set_cons_zero, List.set_cons_succ]
          refine K_at (i := 10) (oi := _) (v := ?_) rfl (by kernel_rfl) (by kernel_rfl) (by kernel_rfl) (by kernel_rfl) (fun _ _ _ h => h) (Or.inl ⟨by rfl, ?_⟩) (by assumption) ?_
          rotate_left
          · (intro w hSw; (try dsimp only at hSw); go_simp; try with_reducible rfl)
          try simp only [Act.put, List.setIfInBounds_toArray, List.set_cons_zero, List.set_cons_succ]
          refine K_at (i := 11) (oi := _) (v := ?_) rfl (by kernel_rfl) (by kernel_rfl) (by kernel_rfl) (by kernel_rfl) (fun _ _ _ h => h) (Or.inl ⟨by rfl, ?_⟩) (by assumption) ?_
          rotate_left
          · (intro w hSw; (try dsimp only at hSw); go_simp; try with_reducible rfl)
          try simp only [Act.put, List.setIfInBounds_toArray, List.set_cons_zero, List.set_cons_succ]
          refine K_at (i := 12) (oi := _) (v := ?_) rfl (by kernel_rfl) (by kernel_rfl) (by kernel_rfl) (by kernel_rfl) (fun _ _ _ h => h) (Or.inl ⟨by rfl, ?_⟩) (by assumption) ?_
          rotate_left
          · (intro w hSw; (try dsimp only at hSw); go_simp; try with_reducible rfl)
          try simp only [Act.put, List.setIfInBounds_toArray, List.set_cons_zero, List.set_cons_succ]
          refine K_at (i := 13) (oi := _) (v := ?_) rfl (by kernel_rfl) (by kernel_rfl) (by kernel_rfl) (by kernel_rfl) (fun _ _ _ h => h) (Or.inl ⟨by rfl, ?_⟩) (by assumption) ?_
          rotate_left
          · (intro w hSw; (try dsimp only at hSw); go_simp; try with_reducible rfl)
          try simp only [Act.put, List.setIfInBounds_toArray, List.set_cons_zero, List.set_cons_succ]
          refine K_only 14 (by kernel_rfl) rfl ?_
          intro K hK
          go_simp
          have hB1 : Below wo.heap.size wo (W0.alloc (.cells #[.int .i64 0, .int .i64 0] 41)) := hB0.alloc hB0.size _
          refine hK.out _ _ (fun _ => HAE.out _ hB1) ?_
          obtain ⟨Mb, hMb⟩ : ∃ Mb, W0.heap.size = Mb := ⟨_, rfl⟩
          have hb1 : (W0.alloc (.cells #[.int .i64 0, .int .i64 0] 41)).heap[Mb]? = some (.cells #[.int .i64 0, .int .i64 0] 41 (0, 0)) := by rw [← hMb]; exact heap_alloc_new W0 _
          have hMlo : wo.heap.size ≤ Mb := by rw [← hMb]; exact hB0.size
          rw [hMb]
          clear hK K
          generalize W0.alloc (.cells #[.int .i64 0, .int .i64 0] 41) = W1 at *
          try simp only [Act.put, List.setIfInBounds_toArray, List.set_cons_zero, List.set_cons_succ]
          have m0 : W1.cell? ⟨Mb, 0, none⟩ = some (.int .i64 0) := by rw [cell_of_row W1 Mb _ _ 41 (0, 0) hb1]; rfl
          have m1 : W1.cell? ⟨Mb, 1, none⟩ = some (.int .i64 0) := by rw [cell_of_row W1 Mb _ _ 41 (0, 0) hb1]; rfl
          have n0 : W1.frozen? ⟨Mb, 0, none⟩ = false := Lib.frozen_of_heap hb1 _
          have n1 : W1.frozen? ⟨Mb, 1, none⟩ = false := Lib.frozen_of_heap hb1 _
          refine K_only 15 (by kernel_rfl) rfl ?_
          intro K hK
          go_simp
          have hB2 : Below wo.heap.size wo ((W1.setCell ⟨Mb, 0, none⟩ (.int .i64 q1)).setCell ⟨Mb, 1, none⟩ (.int .i64 q2)) := (hB1.setCell (p := ⟨Mb, 0, none⟩) hMlo _).setCell (p := ⟨Mb, 1, none⟩) hMlo _
          have hb2 : ((W1.setCell ⟨Mb, 0, none⟩ (.int .i64 q1)).setCell ⟨Mb, 1, none⟩ (.int .i64 q2)).heap[Mb]? = some (.cells #[.int .i64 q1, .int .i64 q2] 41 (0, 0)) := heap_setCell_at (heap_setCell_at hb1 (i := 0) (.int .i64 q1)) (i := 1) (.int .i64 q2)
          refine hK.out _ _ (fun _ => HAE.out _ hB2) ?_
          clear hK K m0 m1 n0 n1
          generalize (W1.setCell ⟨Mb, 0, none⟩ (.int .i64 q1)).setCell ⟨Mb, 1, none⟩ (.int .i64 q2) = W2 at *
          try simp only [Act.put, List.setIfInBounds_toArray, List.set_cons_zero, List.set_cons_succ]
          have hS9 := HAE.out _ hB2
          refine K_at (i := 16) (oi := _) (v := ?_) rfl (by kernel_rfl) (by kernel_rfl) (by kernel_rfl) (by kernel_rfl) (fun _ _ _ h => h) (Or.inl ⟨by rfl, ?_⟩) (by assumption) ?_
          rotate_left
          · (intro w hSw; (try dsimp only at hSw); go_simp; try with_reducible rfl)
          try simp only [Act.put, List.setIfInBounds_toArray, List.set_cons_zero, List.set_cons_succ]
          clear hS9
          refine K_done (by kernel_rfl) ?_ _
          clear hS8 hB0 hB1 hb1
          have HM2 := Lib.hid hb2
          have HB2 := Lib.hid hB2
          have HMLO := Lib.hid hMlo
          have HX2 := Lib.hid (HX.out.below hB2)
          obtain ⟨vh, hvh, nh, eh⟩ := pairs_head (some ad) l cp b (b : Int) rfl (by have := HCAP.out; have := HBL.out; omega) (someNone _ _ _)
          obtain ⟨vt, hvt, nt, et⟩ := pairs_tail (some ad) l cp (b + 1) ((b : Int) + 1) (by simp) (by have := HBL.out; omega) (by have := HCAP.out; omega) (someNone _ _ _)
          have HEH : Hid (∀ W, Below W2.heap.size W2 W → eltsAt pairE W vh (Pi.take b)) := Lib.hid fun W hW => eh W Pi (HX2.out.rows.reads.below hW (Nat.le_refl _)) (by have := HBL.out; have := HZ.out.2; omega)
          have HET : Hid (∀ W, Below W2.heap.size W2 W → eltsAt pairE W vt (Pi.drop (b + 1))) := Lib.hid fun W hW => et W Pi (HX2.out.rows.reads.below hW (Nat.le_refl _))
          have HNH := Lib.hid nh
          have HNT := Lib.hid nt
          have HAC9 : Hid (∀ W, Below W2.heap.size W2 W → AtC X 1 (.slice (some ad) l cp) W) := Lib.hid fun W hW => ⟨(HX2.out.below hW).cells.2.1, (HX2.out.below hW).frozen 1⟩
          clear hb2 hB2 hMlo eh et nh nt
          go_wp2_with fail
          have hc := HX2.out.cells
          have hS : AtC X 1 (.slice (some ad) l cp) W2.drew := ⟨hc.2.1, HX2.out.frozen 1⟩
          clear hc
          refine region_K (S := AtC X 1 (.slice (some ad) l cp)) [19] hmixed ?_
          obtain ⟨V0, hV0⟩ : ∃ V0, W2.drew = V0 := ⟨_, rfl⟩
          have hB0 : Below W2.heap.size W2 V0 := by rw [← hV0]; exact (Below.refl _ _).drew
          rw [hV0] at hS ⊢
          clear hV0
          refine K_at (i := 0) (oi := _) (v := ?_) rfl (by kernel_rfl) (by kernel_rfl) (by kernel_rfl) (by kernel_rfl) (fun _ _ _ h => h) (Or.inl ⟨by rfl, ?_⟩) (by assumption) ?_
          rotate_left
          · (intro w hSw; (try dsimp only at hSw); go_simp; try with_reducible rfl)
          try simp only [Act.put, List.setIfInBounds_toArray, List.set_cons_zero, List.set_cons_succ]
          refine K_at (i := 2) (oi := _) (v := ?_) rfl (by kernel_rfl) (by kernel_rfl) (by kernel_rfl) (by kernel_rfl) (fun _ _ _ h => h) (Or.inl ⟨by rfl, ?_⟩) (by assumption) ?_
          rotate_left
          · (intro w hSw; (try dsimp only at hSw); go_simp; try with_reducible rfl)
          try simp only [Act.put, List.setIfInBounds_toArray, List.set_cons_zero, List.set_cons_succ]
          refine K_at (i := 3) (oi := _) (v := ?_) rfl (by kernel_rfl) (by kernel_rfl) (by kernel_rfl) (by kernel_rfl) (fun _ _ _ h => h) (Or.inl ⟨by rfl, ?_⟩) (by assumption) ?_
          rotate_left
          · (intro w hSw; (try dsimp only at hSw); go_simp; try with_reducible rfl)
          try simp only [Act.put, List.setIfInBounds_toArray, List.set_cons_zero, List.set_cons_succ]
          refine K_at (i := 4) (oi := _) (v := ?_) rfl (by kernel_rfl) (by kernel_rfl) (by kernel_rfl) (by kernel_rfl) (fun _ _ _ h => h) (Or.inl ⟨by rfl, ?_⟩) (by assumption) ?_
          rotate_left
          · (intro w hSw; (try dsimp only at hSw); go_simp; try with_reducible rfl)
          try simp only [Act.put, List.setIfInBounds_toArray, List.set_cons_zero, List.set_cons_succ]
          refine K_at (i := 5) (oi := _) (v := ?_) rfl (by kernel_rfl) (by kernel_rfl) (by kernel_rfl) (by kernel_rfl) (fun _ _ _ h => h) (Or.inl ⟨by rfl, ?_⟩) (by assumption) ?_
          rotate_left
          · (intro w hSw; (try dsimp only at hSw); go_simp; try with_reducible rfl)
          try simp only [Act.put, List.setIfInBounds_toArray, List.set_cons_zero, List.set_cons_succ]
          refine K_at (i := 6) (oi := _) (v := ?_) rfl (by kernel_rfl) (by kernel_rfl) (by kernel_rfl) (by kernel_rfl) (fun _ _ _ h => h) (Or.inl ⟨by rfl, ?_⟩) (by assumption) ?_
          rotate_left
          · (intro w hSw; (try dsimp only at hSw); go_simp; try with_reducible rfl)
          try simp only [Act.put, List.setIfInBounds_toArray, List.set_cons_zero, List.set_cons_succ]
          refine K_at (i := 7) (oi := _) (v := ?_) rfl (by kernel_rfl) (by kernel_rfl) (by kernel_rfl) (by kernel_rfl) (fun _ _ _ h => h) (Or.inl ⟨by rfl, ?_⟩) (by assumption) ?_
          rotate_left
          · (intro w hSw; (try dsimp only at hSw); go_simp; try with_reducible rfl)
          try simp only [Act.put, List.setIfInBounds_toArray, List.set_cons_zero, List.set_cons_succ]
          refine K_at (i := 9) (oi := _) (v := ?_) rfl (by kernel_rfl) (by kernel_rfl) (by kernel_rfl) (by kernel_rfl) (fun _ _ _ h => h) (Or.inl ⟨by rfl, ?_⟩) (by assumption) ?_
          rotate_left
          · (intro w hSw; (try dsimp only at hSw); go_simp; try with_reducible rfl)
          try simp only [Act.put, List.setIfInBounds_toArray, List.set_cons_zero, List.set_cons_succ]
          refine K_at (i := 10) (oi := _) (v := ?_) rfl (by kernel_rfl) (by kernel_rfl) (by kernel_rfl) (by kernel_rfl) (fun _ _ _ h => h) (Or.inl ⟨by rfl, ?_⟩) (by assumption) ?_
          rotate_left
          · (intro w hSw; (try dsimp only at hSw); go_simp; try with_reducible rfl)
          try simp only [Act.put, List.setIfInBounds_toArray, List.set_cons_zero, List.set_cons_succ]
          refine K_at (i := 11) (oi := _) (v := ?_) rfl (by kernel_rfl) (by kernel_rfl) (by kernel_rfl) (by kernel_rfl) (fun _ _ _ h => h) (Or.inl ⟨by rfl, ?_⟩) (by assumption) ?_
          rotate_left
          · (intro w hSw; (try dsimp only at hSw); go_simp; try with_reducible rfl)
          try simp only [Act.put, List.setIfInBounds_toArray, List.set_cons_zero, List.set_cons_succ]
          refine K_at (i := 12) (oi := _) (v := ?_) rfl (by kernel_rfl) (by kernel_rfl) (by kernel_rfl) (by kernel_rfl) (fun _ _ _ h => h) (Or.inl ⟨by rfl, ?_⟩) (by assumption) ?_
          rotate_left
          · (intro w hSw; (try dsimp only at hSw); go_simp; try with_reducible rfl)
          try simp only [Act.put, List.setIfInBounds_toArray, List.set_cons_zero, List.set_cons_succ]
          refine K_at (i := 13) (oi := _) (v := ?_) rfl (by kernel_rfl) (by kernel_rfl) (by kernel_rfl) (by kernel_rfl) (fun _ _ _ h => h) (Or.inl ⟨by rfl, ?_⟩) (by assumption) ?_
          rotate_left
          · (intro w hSw; (try dsimp only at hSw); go_simp; try with_reducible rfl)
          try simp only [Act.put, List.setIfInBounds_toArray, List.set_cons_zero, List.set_cons_succ]
          refine K_at (i := 14) (oi := _) (v := ?_) rfl (by kernel_rfl) (by kernel_rfl) (by kernel_rfl) (by kernel_rfl) (fun _ _ _ h => h) (Or.inl ⟨by rfl, ?_⟩) (by assumption) ?_
          rotate_left
          · (intro w hSw; (try dsimp only at hSw); go_simp; try with_reducible rfl)
          try simp only [Act.put, List.setIfInBounds_toArray, List.set_cons_zero, List.set_cons_succ]
          refine K_at (i := 15) (oi := _) (v := ?_) rfl (by kernel_rfl) (by kernel_rfl) (by kernel_rfl) (by kernel_rfl) (fun _ _ _ h => h) (Or.inl ⟨by rfl, ?_⟩) (by assumption) ?_
          rotate_left
          · (intro w hSw; (try dsimp only at hSw); go_simp; try with_reducible rfl)
          try simp only [Act.put, List.setIfInBounds_toArray, List.set_cons_zero, List.set_cons_succ]
          refine K_only 1 (by kernel_rfl) rfl ?_
          intro K hK
          go_simp
          have hB1 : Below W2.heap.size W2 (V0.alloc (.cells #[] 41)) := hB0.alloc hB0.size _
          have hS1 : AtC X 1 (.slice (some ad) l cp) (V0.alloc (.cells #[] 41)) := HAC9.out _ hB1
          refine hK.out _ _ (fun _ => hS1) ?_
          have hA1 : ownE pairE (V0.alloc (.cells #[] 41)) W2.heap.size (.slice (some ⟨V0.heap.size, 0, none⟩) 0 0) [] := (xempty pairE V0).mono hB0.size
          obtain ⟨Nb, hNb⟩ : ∃ Nb, V0.heap.size = Nb := ⟨_, rfl⟩
          rw [hNb] at hA1 ⊢
          clear hK K hS
          generalize V0.alloc (.cells #[] 41) = V1 at *
          try simp only [Act.put, List.setIfInBounds_toArray, List.set_cons_zero, List.set_cons_succ]
          refine K_only 8 (by kernel_rfl) rfl ?_
          intro K hK
          refine step_append_elts pairE rfl (.tmp 75) (.tmp 81) rfl W2.heap.size (.slice (some ⟨Nb, 0, none⟩) 0 0) vh [] (Pi.take b) rfl rfl hA1 (HEH.out _ hB1) HNH.out (by have := HTL.out; simp only [List.length_nil]; omega) hB1.size ?_
          intro r2 V2 ho2 hg2 _
          rw [List.nil_append] at ho2
          have hB2 := xbelow hB1 hg2 hA1
          have hS2 : AtC X 1 (.slice (some ad) l cp) V2 := HAC9.out _ hB2
          refine hK.out _ _ (fun _ => hS2) ?_
          clear hK K hg2 hS1
          try simp only [Act.put, List.setIfInBounds_toArray, List.set_cons_zero, List.set_cons_succ]
          refine K_only 16 (by kernel_rfl) rfl ?_
          intro K hK
          refine step_append_elts pairE rfl (.tmp 82) (.tmp 89) rfl W2.heap.size r2 vt (Pi.take b) (Pi.drop (b + 1)) rfl rfl ho2 (HET.out _ hB2) HNT.out (by have := HTL.out; have := HDL.out; omega) hB2.size ?_
          intro r3 V3 ho3 hg3 _
          have hB3 := xbelow hB2 hg3 ho2
          have hS3 : AtC X 1 (.slice (some ad) l cp) V3 := HAC9.out _ hB3
          refine hK.out _ _ (fun _ => hS3) ?_
          clear hK K hg3 hS2
          obtain ⟨ra, rc, e3, _⟩ := ho3.form
          rw [HCL.out] at e3
          subst e3
          have hD := HX2.out.freshP hB3 ho3
          try simp only [Act.put, List.setIfInBounds_toArray, List.set_cons_zero, List.set_cons_succ]
          refine K_at (i := 17) (oi := _) (v := ?_) rfl (by kernel_rfl) (by kernel_rfl) (by kernel_rfl) (by kernel_rfl) (fun _ _ _ h => h) (Or.inl ⟨by rfl, ?_⟩) (by assumption) ?_
          rotate_left
          · (intro w hSw; (try dsimp only at hSw); go_simp; try with_reducible rfl)
          try simp only [Act.put, List.setIfInBounds_toArray, List.set_cons_zero, List.set_cons_succ]
          refine K_at (i := 18) (oi := _) (v := ?_) rfl (by kernel_rfl) (by kernel_rfl) (by kernel_rfl) (by kernel_rfl) (fun _ _ _ h => h) (Or.inl ⟨by rfl, ?_⟩) (by assumption) ?_
          rotate_left
          · (intro w hSw; (try dsimp only at hSw); go_simp; try with_reducible rfl)
          try simp only [Act.put, List.setIfInBounds_toArray, List.set_cons_zero, List.set_cons_succ]
          obtain ⟨d1, d2⟩ := hS3
          refine K_only 19 (by kernel_rfl) rfl ?_
          intro K hK
          go_simp
          refine hK.out _ _ (fun h => by cases h) ?_
          clear hK K
          generalize V3.setCell ⟨X, 1, none⟩ (.slice ra l1 rc) = W9 at *
          try simp only [Act.put, List.setIfInBounds_toArray, List.set_cons_zero, List.set_cons_succ]
          refine K_done (by kernel_rfl) ?_ _
          obtain ⟨pv9, nv9, kv9, ku9, hx9, hk9, ho9⟩ := hD
          obtain ⟨a9, c9, e9, k9⟩ := hx9.nums.form
          rw [HLEN.out, HZ.out.2] at e9 k9
          subst e9
          have hMm : ¬ mineX X (.slice (some ad) l cp) (.slice (some an) l cn) kv1 ku1 Mb := fun e => by have := HX.out.lt Mb (.inl e); have := HMLO.out; omega
          have hM2lt := (Array.getElem?_eq_some_iff.1 HM2.out).1
          have hMm9 : ¬ mineX X pv9 (.slice a9 l c9) kv9 ku9 Mb := fun e => hMm (ho9 Mb e hM2lt)
          have hb9 := (hk9.block Mb hM2lt hMm).trans HM2.out
          obtain ⟨vi, hvi, ni, ei⟩ := ints_head a9 l c9 b (b : Int) rfl (by have := HBL.out; omega) hx9.nums.nilNone
          obtain ⟨vj, hvj, nj, ej⟩ := ints_tail a9 l c9 (b + 1) ((b : Int) + 1) (by simp) (by have := HBL.out; omega) k9 hx9.nums.nilNone
          have hrd := hx9.nums.reads
          have HEI : Hid (∀ W, Below W9.heap.size W9 W → eltsAt intE W vi (Ci.take b)) := Lib.hid fun W hW => ei W Ci (hrd.below hW (Nat.le_refl _)) (by have := HBL.out; have := HZ.out.2; have := HLEN.out; omega)
          have HEJ : Hid (∀ W, Below W9.heap.size W9 W → eltsAt intE W vj (Ci.drop (b + 1))) := Lib.hid fun W hW => ej W Ci (hrd.below hW (Nat.le_refl _))
          have HNI := Lib.hid ni
          have HNJ := Lib.hid nj
          have HX9 := Lib.hid hx9
          have HS9 := Lib.hid (And.intro hk9 (And.intro ho9 hMm9))
          have HM9 := Lib.hid hb9
          have HAC10 : Hid (∀ W, Below W9.heap.size W9 W → AtC X 2 (.slice a9 l c9) W) := Lib.hid fun W hW => ⟨(HX9.out.below hW).cells.2.2.1, (HX9.out.below hW).frozen 2⟩
          clear hx9 hk9 ho9 k9 hMm hM2lt hMm9 hb9 ei ej ni nj hrd d1 d2 hB0 hB1 hB2 hB3 hA1 ho2 ho3 hNb
          go_wp2_with fail
          have hc := HX9.out.cells
          have hS : AtC X 2 (.slice a9 l c9) W9.drew := ⟨hc.2.2.1, HX9.out.frozen 2⟩
          clear hc
          refine region_K (S := AtC X 2 (.slice a9 l c9)) [19] hmixed ?_
          obtain ⟨V0, hV0⟩ : ∃ V0, W9.drew = V0 := ⟨_, rfl⟩
          have hB0 : Below W9.heap.size W9 V0 := by rw [← hV0]; exact (Below.refl _ _).drew
          rw [hV0] at hS ⊢
          clear hV0
          refine K_at (i := 0) (oi := _) (v := ?_) rfl (by kernel_rfl) (by kernel_rfl) (by kernel_rfl) (by kernel_rfl) (fun _ _ _ h => h) (Or.inl ⟨by rfl, ?_⟩) (by assumption) ?_
          rotate_left
          · (intro w hSw; (try dsimp only at hSw); go_simp; try with_reducible rfl)
          try simp only [Act.put, List.setIfInBounds_toArray, List.set_cons_zero, List.set_cons_succ]
          refine K_at (i := 2) (oi := _) (v := ?_) rfl (by kernel_rfl) (by kernel_rfl) (by kernel_rfl) (by kernel_rfl) (fun _ _ _ h => h) (Or.inl ⟨by rfl, ?_⟩) (by assumption) ?_
          rotate_left
          · (intro w hSw; (try dsimp only at hSw); go_simp; try with_reducible rfl)
          try simp only [Act.put, List.setIfInBounds_toArray, List.set_cons_zero, List.set_cons_succ]
          refine K_at (i := 3) (oi := _) (v := ?_) rfl (by kernel_rfl) (by kernel_rfl) (by kernel_rfl) (by kernel_rfl) (fun _ _ _ h => h) (Or.inl ⟨by rfl, ?_⟩) (by assumption) ?_
          rotate_left
          · (intro w hSw; (try dsimp only at hSw); go_simp; try with_reducible rfl)
          try simp only [Act.put, List.setIfInBounds_toArray, List.set_cons_zero, List.set_cons_succ]
          refine K_at (i := 4) (oi := _) (v := ?_) rfl (by kernel_rfl) (by kernel_rfl) (by kernel_rfl) (by kernel_rfl) (fun _ _ _ h => h) (Or.inl ⟨by rfl, ?_⟩) (by assumption) ?_
          rotate_left
          · (intro w hSw; (try dsimp only at hSw); go_simp; try with_reducible rfl)
          try simp only [Act.put, List.setIfInBounds_toArray, List.set_cons_zero, List.set_cons_succ]
          refine K_at (i := 5) (oi := _) (v := ?_) rfl (by kernel_rfl) (by kernel_rfl) (by kernel_rfl) (by kernel_rfl) (fun _ _ _ h => h) (Or.inl ⟨by rfl, ?_⟩) (by assumption) ?_
          rotate_left
          · (intro w hSw; (try dsimp only at hSw); go_simp; try with_reducible rfl)
          try simp only [Act.put, List.setIfInBounds_toArray, List.set_cons_zero, List.set_cons_succ]
          refine K_at (i := 6) (oi := _) (v := ?_) rfl (by kernel_rfl) (by kernel_rfl) (by kernel_rfl) (by kernel_rfl) (fun _ _ _ h => h) (Or.inl ⟨by rfl, ?_⟩) (by assumption) ?_
          rotate_left
          · (intro w hSw; (try dsimp only at hSw); go_simp; try with_reducible rfl)
          try simp only [Act.put, List.setIfInBounds_toArray, List.set_cons_zero, List.set_cons_succ]
          refine K_at (i := 7) (oi := _) (v := ?_) rfl (by kernel_rfl) (by kernel_rfl) (by kernel_rfl) (by kernel_rfl) (fun _ _ _ h => h) (Or.inl ⟨by rfl, ?_⟩) (by assumption) ?_
          rotate_left
          · (intro w hSw; (try dsimp only at hSw); go_simp; try with_reducible rfl)
          try simp only [Act.put, List.setIfInBounds_toArray, List.set_cons_zero, List.set_cons_succ]
          refine K_at (i := 9) (oi := _) (v := ?_) rfl (by kernel_rfl) (by kernel_rfl) (by kernel_rfl) (by kernel_rfl) (fun _ _ _ h => h) (Or.inl ⟨by rfl, ?_⟩) (by assumption) ?_
          rotate_left
          · (intro w hSw; (try dsimp only at hSw); go_simp; try with_reducible rfl)
          try simp only [Act.put, List.setIfInBounds_toArray, List.set_cons_zero, List.set_cons_succ]
          refine K_at (i := 10) (oi := _) (v := ?_) rfl (by kernel_rfl) (by kernel_rfl) (by kernel_rfl) (by kernel_rfl) (fun _ _ _ h => h) (Or.inl ⟨by rfl, ?_⟩) (by assumption) ?_
          rotate_left
          · (intro w hSw; (try dsimp only at hSw); go_simp; try with_reducible rfl)
          try simp only [Act.put, List.setIfInBounds_toArray, List.set_cons_zero, List.set_cons_succ]
          refine K_at (i := 11) (oi := _) (v := ?_) rfl (by kernel_rfl) (by kernel_rfl) (by kernel_rfl) (by kernel_rfl) (fun _ _ _ h => h) (Or.inl ⟨by rfl, ?_⟩) (by assumption) ?_
          rotate_left
          · (intro w hSw; (try dsimp only at hSw); go_simp; try with_reducible rfl)
          try simp only [Act.put, List.setIfInBounds_toArray, List.set_cons_zero, List.set_cons_succ]
          refine K_at (i := 12) (oi := _) (v := ?_) rfl (by kernel_rfl) (by kernel_rfl) (by kernel_rfl) (by kernel_rfl) (fun _ _ _ h => h) (Or.inl ⟨by rfl, ?_⟩) (by assumption) ?_
          rotate_left
          · (intro w hSw; (try dsimp only at hSw); go_simp; try with_reducible rfl)
          try simp only [Act.put, List.setIfInBounds_toArray, List.set_cons_zero, List.set_cons_succ]
          refine K_at (i := 13) (oi := _) (v := ?_) rfl (by kernel_rfl) (by kernel_rfl) (by kernel_rfl) (by kernel_rfl) (fun _ _ _ h => h) (Or.inl ⟨by rfl, ?_⟩) (by assumption) ?_
          rotate_left
          · (intro w hSw; (try dsimp only at hSw); go_simp; try with_reducible rfl)
          try simp only [Act.put, List.setIfInBounds_toArray, List.set_cons_zero, List.set_cons_succ]
          refine K_at (i := 14) (oi := _) (v := ?_) rfl (by kernel_rfl) (by kernel_rfl) (by kernel_rfl) (by kernel_rfl) (fun _ _ _ h => h) (Or.inl ⟨by rfl, ?_⟩) (by assumption) ?_
          rotate_left
          · (intro w hSw; (try dsimp only at hSw); go_simp; try with_reducible rfl)
          try simp only [Act.put, List.setIfInBounds_toArray, List.set_cons_zero, List.set_cons_succ]
          refine K_at (i := 15) (oi := _) (v := ?_) rfl (by kernel_rfl) (by kernel_rfl) (by kernel_rfl) (by kernel_rfl) (fun _ _ _ h => h) (Or.inl ⟨by rfl, ?_⟩) (by assumption) ?_
          rotate_left
          · (intro w hSw; (try dsimp only at hSw); go_simp; try with_reducible rfl)
          try simp only [Act.put, List.setIfInBounds_toArray, List.set_cons_zero, List.set_cons_succ]
          refine K_only 1 (by kernel_rfl) rfl ?_
          intro K hK
          go_simp
          have hB1 : Below W9.heap.size W9 (V0.alloc (.cells #[] 3)) := hB0.alloc hB0.size _
          have hS1 : AtC X 2 (.slice a9 l c9) (V0.alloc (.cells #[] 3)) := HAC10.out _ hB1
          refine hK.out _ _ (fun _ => hS1) ?_
          have hA1 : ownE intE (V0.alloc (.cells #[] 3)) W9.heap.size (.slice (some ⟨V0.heap.size, 0, none⟩) 0 0) [] := (xempty intE V0).mono hB0.size
          obtain ⟨Nb, hNb⟩ : ∃ Nb, V0.heap.size = Nb := ⟨_, rfl⟩
          rw [hNb] at hA1 ⊢
          clear hK K hS
          generalize V0.alloc (.cells #[] 3) = V1 at *
          try simp only [Act.put, List.setIfInBounds_toArray, List.set_cons_zero, List.set_cons_succ]
          refine K_only 8 (by kernel_rfl) rfl ?_
          intro K hK
          refine step_append_elts intE rfl (.tmp 94) (.tmp 100) rfl W9.heap.size (.slice (some ⟨Nb, 0, none⟩) 0 0) vi [] (Ci.take b) rfl rfl hA1 (HEI.out _ hB1) HNI.out (by have := HIL.out; simp only [List.length_nil]; omega) hB1.size ?_
          intro r2 V2 ho2 hg2 _
          rw [List.nil_append] at ho2
          have hB2 := xbelow hB1 hg2 hA1
          have hS2 : AtC X 2 (.slice a9 l c9) V2 := HAC10.out _ hB2
          refine hK.out _ _ (fun _ => hS2) ?_
          clear hK K hg2 hS1
          try simp only [Act.put, List.setIfInBounds_toArray, List.set_cons_zero, List.set_cons_succ]
          refine K_only 16 (by kernel_rfl) rfl ?_
          intro K hK
          refine step_append_elts intE rfl (.tmp 101) (.tmp 108) rfl W9.heap.size r2 vj (Ci.take b) (Ci.drop (b + 1)) rfl rfl ho2 (HEJ.out _ hB2) HNJ.out (by have := HIL.out; have := HJL.out; omega) hB2.size ?_
          intro r3 V3 ho3 hg3 _
          have hB3 := xbelow hB2 hg3 ho2
          have hS3 : AtC X 2 (.slice a9 l c9) V3 := HAC10.out _ hB3
          refine hK.out _ _ (fun _ => hS3) ?_
          clear hK K hg3 hS2
          obtain ⟨ra, rc, e3, _⟩ := ho3.form
          rw [HCM.out] at e3
          subst e3
          have hD := HX9.out.freshN hB3 ho3
          try simp only [Act.put, List.setIfInBounds_toArray, List.set_cons_zero, List.set_cons_succ]
          refine K_at (i := 17) (oi := _) (v := ?_) rfl (by kernel_rfl) (by kernel_rfl) (by kernel_rfl) (by kernel_rfl) (fun _ _ _ h => h) (Or.inl ⟨by rfl, ?_⟩) (by assumption) ?_
          rotate_left
          · (intro w hSw; (try dsimp only at hSw); go_simp; try with_reducible rfl)
          try simp only [Act.put, List.setIfInBounds_toArray, List.set_cons_zero, List.set_cons_succ]
          refine K_at (i := 18) (oi := _) (v := ?_) rfl (by kernel_rfl) (by kernel_rfl) (by kernel_rfl) (by kernel_rfl) (fun _ _ _ h => h) (Or.inl ⟨by rfl, ?_⟩) (by assumption) ?_
          rotate_left
          · (intro w hSw; (try dsimp only at hSw); go_simp; try with_reducible rfl)
          try simp only [Act.put, List.setIfInBounds_toArray, List.set_cons_zero, List.set_cons_succ]
          obtain ⟨d1, d2⟩ := hS3
          refine K_only 19 (by kernel_rfl) rfl ?_
          intro K hK
          go_simp
          refine hK.out _ _ (fun h => by cases h) ?_
          clear hK K
          generalize V3.setCell ⟨X, 2, none⟩ (.slice ra l1 rc) = W10 at *
          try simp only [Act.put, List.setIfInBounds_toArray, List.set_cons_zero, List.set_cons_succ]
          refine K_done (by kernel_rfl) ?_ _
          have hM9lt := (Array.getElem?_eq_some_iff.1 HM9.out).1
          obtain ⟨s, hs⟩ : ∃ s : Int, po + (n : Int) = s := ⟨_, rfl⟩
          have hn1 : n ≤ 1000 := by have := HFEW.out; omega
          rw [hs] at hD
          have HTO : Hid (∀ P' C' M' pu' po' pk' re' w', XRet W9 X T tv tp pv9 (.slice a9 l c9) kv9 ku9 J P' C' M' pu' po' pk' re' w' → XRet wa X T tv tp pv nv kv ku J P' C' M' pu' po' pk' re' w') := Lib.hid fun P' C' M' pu' po' pk' re' w' h => xstep HSX.out.1 HSX.out.2 ((xstep HS9.out.1 HS9.out.2.1 h).after HB2.out)
          obtain ⟨pv11, nv11, kv11, ku11, hx11, hk11, ho11⟩ := hD
          obtain ⟨_, _, _, _, _, _, _, _, x8, _, _⟩ := hx11.cells
          have z8 := hx11.frozen 8
          have hs1 : IntKind.i64.wrap (s + 1) = s + 1 := IntWalk.i64_in _ (by omega)
          obtain ⟨w11, hw11⟩ : ∃ w11, W10.setCell ⟨X, 8, none⟩ (.int .i64 (s + 1)) = w11 := ⟨_, rfl⟩
          have hr11 : XRet W9 X T tv tp pv9 (.slice a9 l c9) kv9 ku9 J (Pi.take b ++ Pi.drop (b + 1)) (Ci.take b ++ Ci.drop (b + 1)) M pu (s + 1) pk re w11 := xstep hk11 ho11 (by rw [← hw11]; exact hx11.num (by decide) rfl)
          have hb11 := (hr11.block hM9lt HS9.out.2.2).trans HM9.out
          have u0 : w11.cell? ⟨Mb, 0, none⟩ = some (.int .i64 q1) := by rw [cell_of_row w11 Mb _ _ 41 (0, 0) hb11]; rfl
          have u1 : w11.cell? ⟨Mb, 1, none⟩ = some (.int .i64 q2) := by rw [cell_of_row w11 Mb _ _ 41 (0, 0) hb11]; rfl
          have cG := (HLV.out w11 (HTO.out _ _ _ _ _ _ _ _ hr11).kept).get q1 q2
          obtain ⟨g, hgg⟩ : ∃ g, getC L (q1, q2) = g := ⟨_, rfl⟩
          rw [hgg] at cG
          have HR11 := Lib.hid hr11
          have HGG := Lib.hid hgg
          have HSN := Lib.hid (And.intro hs (And.intro hM9lt hn1))
          clear hx11 hk11 ho11 hr11 hb11 hgg hM9lt hs hn1 hB0 hB1 hB2 hB3 hA1 ho2 ho3 hNb
          by_cases hf : q3 = g
          · subst hf
            go_wp2_with fail
            refine cG.mono ?_
            rintro e w12 ⟨rfl, hg12⟩
            have hr12 := HR11.out.grown hg12.below
            have hb12 := (hr12.block HSN.out.2.1 HS9.out.2.2).trans HM9.out
            have v0 : w12.cell? ⟨Mb, 0, none⟩ = some (.int .i64 q1) := by rw [cell_of_row w12 Mb _ _ 41 (0, 0) hb12]; rfl
            have v1 : w12.cell? ⟨Mb, 1, none⟩ = some (.int .i64 q2) := by rw [cell_of_row w12 Mb _ _ 41 (0, 0) hb12]; rfl
            obtain ⟨pv12, nv12, kv12, ku12, hx12, hk12, ho12⟩ := hr12
            have cF := xforget_any (q1, q2) hx12 hMl
            have HS12 := Lib.hid (And.intro hk12 ho12)
            clear hx12 hk12 ho12 hb12 cG hg12 u0 u1 x8 z8 hw11
            go_wp2_with fail
            refine cF.mono ?_
            rintro e w13 ⟨rfl, hr13⟩
            have hr14 := xstep HS12.out.1 HS12.out.2 hr13
            have hb13 := (hr14.block HSN.out.2.1 HS9.out.2.2).trans HM9.out
            have y0 : w13.cell? ⟨Mb, 0, none⟩ = some (.int .i64 q1) := by rw [cell_of_row w13 Mb _ _ 41 (0, 0) hb13]; rfl
            have y1 : w13.cell? ⟨Mb, 1, none⟩ = some (.int .i64 q2) := by rw [cell_of_row w13 Mb _ _ 41 (0, 0) hb13]; rfl
            have hr15 := HTO.out _ _ _ _ _ _ _ _ hr14
            have hn15 := (hr15.block HNA.out.1 HNA.out.2).trans HBA.out
            have e0 : w13.cell? ⟨Nr, 0, none⟩ = some (.int .i64 0) := by rw [cell_of_row w13 Nr _ _ 41 (0, 0) hn15]; rfl
            have e1 : w13.cell? ⟨Nr, 1, none⟩ = some (.int .i64 0) := by rw [cell_of_row w13 Nr _ _ 41 (0, 0) hn15]; rfl
            have f0 : w13.frozen? ⟨Nr, 0, none⟩ = false := Lib.frozen_of_heap hn15 _
            have f1 : w13.frozen? ⟨Nr, 1, none⟩ = false := Lib.frozen_of_heap hn15 _
            have HFIN := Lib.hid (hr15.boxed HGA.out.below (Nat.le_of_eq HNR.out) HNA.out.1 HNA.out.2 HTN.out (.int .i64 q1) (.int .i64 q2))
            have HN15 := Lib.hid hn15
            clear hr13 hr14 hb13 hr15 hn15 cF v0 v1
            go_wp2
            have h0 := heap_setCell_at (heap_setCell_at HN15.out (i := 0) (.int .i64 q1)) (i := 1) (.int .i64 q2)
            have z0 := cell_of_row _ Nr 0 _ 41 (0, 0) h0
            have z1' := cell_of_row _ Nr 1 _ 41 (0, 0) h0
            refine bodyPost_ret (v := .tuple #[.agg #[.int .i64 q1, .int .i64 q2], .int .i64 q3, .bool true]) (by rw [results_cell_two rfl]; simp [go_sem, z0, z1']) rfl ?_
            obtain ⟨hzb, hzl, hzz⟩ := HLB.out
            refine ⟨.some (q1, q2, q3), Pi.take b ++ Pi.drop (b + 1), Ci.take b ++ Ci.drop (b + 1), 1 + n, HS.out.pops _ _ _ ?_, by rw [HCM.out, HCL.out], rfl, ?_⟩
            · show Pops J (getC L) (zipQ Pi Ci) (.some (q1, q2, q3)) (zipQ (cutL Pi b) (cutL Ci b)) 1
              rw [cutL_zip HLEN.out, HZ.out.1]
              have e2 : Z[b] = (q1, q2, q3) := by rw [List.getElem?_eq_getElem hzl] at hzb; exact Option.some.inj hzb
              have := pops_hit (f := getC L) (by rw [hzz]; exact HBE.out) hzl (by rw [e2]; exact HGG.out)
              rw [e2] at this
              exact this
            · have e2 : po + ((1 + n : Nat) : Int) = s + 1 := by have := HSN.out.1; omega
              rw [e2]
              exact HFIN.out
          · have hbq : (q3 == g) = false := beq_eq_false_iff_ne.2 hf
            have HF := Lib.hid hf
            clear hf
            go_wp2_with fail
            refine cG.mono ?_
            rintro e w12 ⟨rfl, hg12⟩
            have HR12 := Lib.hid ((HTO.out _ _ _ _ _ _ _ _ HR11.out).grown hg12.below)
            clear hg12 cG u0 u1 x8 z8 hw11
            go_wp2
            go_roundg l1
            case measure => have := HKX.out; have := HZ.out.2; have := HBL.out.2; omega
            case rel =>
              obtain ⟨hzb, hzl, hzz⟩ := HLB.out
              refine ⟨Pi.take b ++ Pi.drop (b + 1), Ci.take b ++ Ci.drop (b + 1), n + 1, by rw [HCL.out]; exact Nat.le_refl _, ?_, by rw [HCM.out, HCL.out], by rw [HCL.out]; have := HFEW.out; have := HZ.out.2; have := HBL.out.2; omega, fun o l2 k hp => ?_⟩
              · have e2 : po + ((n + 1 : Nat) : Int) = s + 1 := by have := HSN.out.1; omega
                rw [e2]
                exact HR12.out
              · have hp' : Pops J (getC L) (zipQ (cutL Pi b) (cutL Ci b)) o l2 k := hp
                rw [cutL_zip HLEN.out, HZ.out.1] at hp'
                have e2 : Z[b] = (q1, q2, q3) := by rw [List.getElem?_eq_getElem hzl] at hzb; exact Option.some.inj hzb
                have h1 := pops_miss (f := getC L) (by rw [hzz]; exact HBE.out) hzl (by rw [e2]; exact fun e => HF.out (by rw [← HGG.out]; exact e.symm)) hp'
                rw [← HZ.out.1] at h1
                have h2 := HS.out.pops o l2 (k + 1) h1
                rw [show k + (n + 1) = k + 1 + n by omega]
                exact h2
end Go.Proofs.Ytbnekkcjkdghcaa
