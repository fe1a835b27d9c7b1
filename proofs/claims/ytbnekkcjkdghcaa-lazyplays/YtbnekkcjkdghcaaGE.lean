/- Texts in one: LzTake, LzPop. -/
import Derived.Test.YtbnekkcjkdghcaaLzPutV
import Derived.Test.YtbnekkcjkdghcaaGG
import Derived.Deep.LoopGhost
/- The best entry is taken. -/
namespace Go.Proofs.Ytbnekkcjkdghcaa
open Go.RowKit Go.Maps Go.Shelf
open Go.Sort (grow grow_empty grow_grow alloc_eq_grow heap_grow_old)
attribute [local go_sem] Oper.semAt_some
variable {w w' : World} {K T H c m : Nat} {v : Value} {A : List Ent} {hu hk : Int} {tv : Value} {tb : Option Nat} {J : List Joint} {q q' : Qm}

set_option maxRecDepth 100000 in
/-- Two results that lie in memory. -/
theorem results_cell2 {fn : Func} {p p2 : Tmp} {ty ty2 : TypeId} (h : fn.results = #[.cell p ty, .cell p2 ty2]) (tmps : Array Value) (P : Program) (w : World) :
    (results fn tmps).run P w = ((asAddr (tmps.getD p undef)).run P w).andThen fun a w₁ => ((loadVar ty a).run P w₁).andThen fun x w₂ => ((asAddr (tmps.getD p2 undef)).run P w₂).andThen fun b w₃ => ((loadVar ty2 b).run P w₃).andThen fun y w₄ => .ok (.tuple #[x, y]) w₄ := by
  simp only [results, h]
  simp [Sem.run_bind, Result.andThen]
  done
set_option maxRecDepth 100000 in
theorem Kept.blink {S : Nat → Prop} {b : Nat} {a W V : World} (h : Kept S a W) (k : Blink b W V) (hb : a.heap.size ≤ b) : Kept S a V :=
  ⟨k.os.trans h.os, k.tape.trans h.tape, k.output.trans h.output, Nat.le_trans h.size k.size, fun i hi hs => (k.low i (by omega) (Nat.lt_of_lt_of_le hi h.size)).trans (h.block i hi hs)⟩
/-- The boxes of take: the queue, the item and whether there is one, and the heap for its iterator. -/
structure TkB (K H Nq Nr Nb N : Nat) (W : World) : Prop where
  bq : W.heap[Nq]? = some (.cells #[.pointer (some ⟨K, 0, none⟩)] 24 (0, 0))
  br : W.heap[Nr]? = some (.cells #[.int .i64 0, .int .i64 0, .int .i64 0] 48 (0, 0))
  bb : W.heap[Nb]? = some (.cells #[.bool false] 4 (0, 0))
  bn : W.heap[N]? = some (.cells #[.pointer (some ⟨H, 0, none⟩)] 58 (0, 0))
set_option maxRecDepth 100000 in
theorem ent_eql_yes (a b n : Int) (w : World) : (binOp .eql 61 (.agg #[.int .i64 a, .int .i64 b, .int .i64 n, .int .i64 a, .int .i64 b, .int .i64 n]) (.agg #[.int .i64 a, .int .i64 b, .int .i64 n, .int .i64 a, .int .i64 b, .int .i64 n])).run Try.prog w = .ok (.bool true) w := by
  have u61 := Try.underlying61
  have u48 := Try.underlying48
  have u41 := Try.underlying41
  have u3 := Try.underlying3
  simp [go_sem, u61, u48, u41, u3]
/-- What the item's taking leaves. -/
structure TkX (wL : World) (K T H m Nr Nb c : Nat) (v : Value) (hu hk : Int) (J : List Joint) (q : Qm) (i : Item) (t : List Ent) (v' : Value) (A' : List Ent) (V : World) : Prop where
  perm : A'.Perm t
  ord : HeapFrom (entBetter J) A' 0
  heap : Hp V 0 H (ordV c) v' A' hu hk
  own : v'.ownBlock = v.ownBlock
  kept : Kept (fun k => mine H v k ∨ k = K ∨ k = Nr ∨ k = Nb) wL V
  box : V.heap[K]? = some (.cells #[.pointer (some ⟨T, 0, none⟩), .pointer (some ⟨H, 0, none⟩), .map (some m), .int .i64 0, .int .i64 0, .int .i64 q.pu, .int .i64 (q.po + 1), .int .i64 q.pk, .int .i64 q.re] 66 (0, 0))
  br : V.heap[Nr]? = some (.cells #[.int .i64 i.1, .int .i64 i.2.1, .int .i64 i.2.2] 48 (0, 0))
  bb : V.heap[Nb]? = some (.cells #[.bool true] 4 (0, 0))
def TkIx (wL : World) (K T H m Nr Nb c : Nat) (v : Value) (A : List Ent) (hu hk : Int) (J : List Joint) (q : Qm) (V : World) : Prop := ∃ i t v' A', A = entOf i :: t ∧ TkX wL K T H m Nr Nb c v hu hk J q i t v' A' V
set_option maxRecDepth 100000 in
theorem tk_own {wL W : World} {Nq Nr Nb N : Nat} (h : LzIn wL K T H c m v A hu hk tv tb J q) (hb : TkB K H Nq Nr Nb N wL) (hW : Below wL.heap.size wL W) : DOwn 0 H (ordV c) hu hk (entBetter J) (fun W => Env W T tv tb J c) (lzBet T c tv tb) N (v, A) W :=
  ⟨(h.below hW).heap, h.ord, (hW.block N (Array.getElem?_eq_some_iff.1 hb.bn).1).trans hb.bn, (h.below hW).env, h.hap⟩
set_option maxRecDepth 100000 in
theorem TkX.blink {wL V V2 : World} {Nr Nb b : Nat} {i : Item} {t A' : List Ent} {v' : Value} (h : TkX wL K T H m Nr Nb c v hu hk J q i t v' A' V) (k : Blink b V V2) (hb : wL.heap.size ≤ b) : TkX wL K T H m Nr Nb c v hu hk J q i t v' A' V2 :=
  ⟨h.perm, h.ord, h.heap.blink k, h.own, h.kept.blink k hb, box_blink h.box k, box_blink h.br k, box_blink h.bb k⟩
set_option maxRecDepth 100000 in
theorem SaneQ.took {q : Qm} (h : SaneQ J q) {x : Item} {r : List Item} (hp : q.ents.Perm (x :: r)) : SaneQ J { q with ents := r, po := q.po + 1 } := by
  have h1 := hp.length_eq
  have h2 := h.cnt
  rw [List.length_cons] at h1
  exact ⟨fun y hy => h.ents y (hp.mem_iff.2 (List.mem_cons_of_mem _ hy)), h.known, h.ris, by have := h.po; show 0 ≤ q.po + 1; omega, by show q.po + 1 + (r.length : Int) ≤ q.pu; omega, h.len, h.re⟩
set_option maxRecDepth 100000 in
/-- Behind the loop, where one was taken. -/
theorem tk_end {hk0 : Int} {wL W V : World} {Nr Nb : Nat} {i : Item} {t A' : List Ent} {v' : Value} (h : LzIn w K T H c m v A hu hk0 tv tb J q) (hL : LzIn wL K T H c m v A hu hk0 tv tb J q) (hb : Below w.heap.size w wL) (hr : w.heap.size ≤ Nr) (hbb : w.heap.size ≤ Nb) (et : A = entOf i :: t)
    (hx : TkX wL K T H m Nr Nb c v hu hk0 J q i t v' A' W) (hk : Blink wL.heap.size W V) : ∃ r, q.ents.Perm (i :: r) ∧ (∀ y ∈ q.ents, betterOf J y i = false) ∧ LRet w K T H c m v tv tb J { q with ents := r, po := q.po + 1 } V := by
  have hie : i ∈ q.ents := by
    have h1 : entOf i ∈ q.ents.map entOf := h.perm.mem_iff.1 (by rw [et]; exact List.mem_cons_self)
    obtain ⟨j, hj, e⟩ := List.mem_map.1 h1
    rw [← ent_inj e]; exact hj
  have hpe : q.ents.Perm (i :: q.ents.erase i) := List.perm_cons_erase hie
  have hpt : t.Perm ((q.ents.erase i).map entOf) := by
    have h1 := h.perm.trans (hpe.map entOf)
    rw [et, List.map_cons] at h1
    exact h1.cons_inv
  have hmm : ∀ k, mine H v' k → mine H v k := fun k hk1 => by unfold mine at hk1 ⊢; rwa [hx.own] at hk1
  have ltw : ∀ k, mineL K H m v k ∨ lzBet T c tv tb k → k < w.heap.size := h.lt
  obtain ⟨a1, a2, a3, a4⟩ := h.apart
  have hs := hb.size
  have hv := hx.blink hk (Nat.le_refl _)
  have hout : ∀ k, k < w.heap.size → ¬ mine H v k → k ≠ K → ¬ (mine H v k ∨ k = K ∨ k = Nr ∨ k = Nb) := fun k h1 h2 h3 h4 => by
    rcases h4 with h4 | h4 | h4 | h4
    · exact h2 h4
    · exact h3 h4
    · omega
    · omega
  have hE : Env V T tv tb J c := hL.env.kept fun k h1 h2 => hv.kept.block k h1 (hout k (ltw k (.inr h2)) (fun e => h.hap k e h2) fun e => a1 k h2 (.inl e))
  have hM : CMap V m q.known := hL.map.kept (hv.kept.block m hL.map.lt (hout m h.map.lt a3 fun e => a4 e.symm))
  have hLV : LzIn V K T H c m v' A' hu hk0 tv tb J { q with ents := q.ents.erase i, po := q.po + 1 } :=
    ⟨hv.box, hE, hv.heap, hv.ord, hM, hv.perm.trans hpt, h.sane.took hpe, h.hu, h.sep⟩
  refine ⟨q.ents.erase i, hpe, fun y hy => ?_, H, c, v', A', hu, hk0, hLV, ((Kept.of_below (S := mineL K H m v) hb (Nat.le_refl _)).trans hv.kept fun k h1 h2 => ?_), fun k h1 h2 => ?_⟩
  · have h1 := heap_best (entBetter_ranks J) h.ord (by rw [et]; simp) (entOf y) (h.perm.mem_iff.2 (List.mem_map_of_mem hy))
    simp only [et, List.getElem_cons_zero] at h1
    exact h1
  · rcases h2 with h2 | h2 | h2 | h2
    · exact .inr (.inr h2)
    · exact .inl h2
    · omega
    · omega
  · rcases h1 with (h1 | h1 | h1) | h1
    · exact .inl (.inl h1)
    · exact .inl (.inr (.inl h1))
    · exact .inl (.inr (.inr (hmm k h1)))
    · exact .inr h1
set_option maxRecDepth 100000 in
/-- Behind the loop, where there was none. -/
theorem tk_none {hk0 : Int} {wL W : World} {Nr Nb : Nat} (h : LzIn w K T H c m v [] hu hk0 tv tb J q) (hL : LzIn wL K T H c m v [] hu hk0 tv tb J q) (hb : Below w.heap.size w wL) (hr : w.heap.size ≤ Nr) (hbb : w.heap.size ≤ Nb)
    (hp : Hp W 0 H (ordV c) v [] hu hk0) (hkp : Kept (fun k => mine H v k ∨ k = Nr ∨ k = Nb) wL W) : q.ents = [] ∧ LRet w K T H c m v tv tb J q W := by
  obtain ⟨a1, a2, a3, a4⟩ := h.apart
  have ltw : ∀ k, mineL K H m v k ∨ lzBet T c tv tb k → k < w.heap.size := h.lt
  have he : q.ents = [] := by
    have := h.perm.length_eq
    rw [List.length_map] at this
    exact List.eq_nil_of_length_eq_zero this.symm
  have hout : ∀ k, k < w.heap.size → ¬ mine H v k → ¬ (mine H v k ∨ k = Nr ∨ k = Nb) := fun k h1 h2 h4 => by
    rcases h4 with h4 | h4 | h4
    · exact h2 h4
    · omega
    · omega
  have hE : Env W T tv tb J c := hL.env.kept fun k h1 h2 => hkp.block k h1 (hout k (ltw k (.inr h2)) fun e => h.hap k e h2)
  have hM : CMap W m q.known := hL.map.kept (hkp.block m hL.map.lt (hout m h.map.lt a3))
  refine ⟨he, H, c, v, [], hu, hk0, ⟨(hkp.block K hL.ltK (hout K h.ltK a2)).trans hL.box, hE, hp, h.ord, hM, h.perm, h.sane, h.hu, h.sep⟩, ((Kept.of_below (S := mineL K H m v) hb (Nat.le_refl _)).trans hkp fun k h1 h2 => ?_), fun k h1 _ => h1⟩
  rcases h2 with h2 | h2 | h2
  · exact .inr (.inr h2)
  · omega
  · omega
/-- Behind take. -/
def TakeRet (w : World) (K T H c m : Nat) (v : Value) (tv : Value) (tb : Option Nat) (J : List Joint) (q : Qm) (e : Ending) (w' : World) : Prop :=
  (q.ents = [] ∧ e = .returned (.tuple #[itemV (0, 0, 0), .bool false]) ∧ LRet w K T H c m v tv tb J q w') ∨
  ∃ x r, q.ents.Perm (x :: r) ∧ (∀ y ∈ q.ents, betterOf J y x = false) ∧ e = .returned (.tuple #[itemV x, .bool true]) ∧ LRet w K T H c m v tv tb J { q with ents := r, po := q.po + 1 } w'
set_option maxRecDepth 100000 in
set_option maxHeartbeats 4000000 in
theorem take_any (h : LzIn w K T H c m v A hu hk tv tb J q) (hpu : q.pu ≤ 90000) : Calls Try.prog 34 #[.pointer (some ⟨K, 0, none⟩)] w (TakeRet w K T H c m v tv tb J q) := by
  obtain ⟨Nq, hNq⟩ : ∃ Nq, w.heap.size = Nq := ⟨_, rfl⟩
  obtain ⟨w1, hw1⟩ : ∃ w1, w.alloc (.cells #[.pointer (some ⟨K, 0, none⟩)] 24) = w1 := ⟨_, rfl⟩
  obtain ⟨w2, hw2⟩ : ∃ w2, w1.alloc (.cells #[.int .i64 0, .int .i64 0, .int .i64 0] 48) = w2 := ⟨_, rfl⟩
  obtain ⟨w3, hw3⟩ : ∃ w3, w2.alloc (.cells #[.bool false] 4) = w3 := ⟨_, rfl⟩
  obtain ⟨wL, hwL⟩ : ∃ wL, w3.alloc (.cells #[.pointer (some ⟨H, 0, none⟩)] 58) = wL := ⟨_, rfl⟩
  have z1 : w1.heap.size = Nq + 1 := by rw [← hw1, World.size_alloc, hNq]
  have z2 : w2.heap.size = Nq + 2 := by rw [← hw2, World.size_alloc, z1]
  have z3 : w3.heap.size = Nq + 3 := by rw [← hw3, World.size_alloc, z2]
  have zL : wL.heap.size = Nq + 4 := by rw [← hwL, World.size_alloc, z3]
  have b1 : Below w.heap.size w w1 := by rw [← hw1]; exact (Below.refl _ w).alloc (Nat.le_refl _) _
  have b2 : Below w1.heap.size w1 w2 := by rw [← hw2]; exact (Below.refl _ w1).alloc (Nat.le_refl _) _
  have b3 : Below w2.heap.size w2 w3 := by rw [← hw3]; exact (Below.refl _ w2).alloc (Nat.le_refl _) _
  have bL : Below w3.heap.size w3 wL := by rw [← hwL]; exact (Below.refl _ w3).alloc (Nat.le_refl _) _
  have b3L := b3.trans (bL.mono (by omega))
  have b2L := b2.trans (b3L.mono (by omega))
  have hBX : TkB K H Nq (Nq + 1) (Nq + 2) (Nq + 3) wL :=
    ⟨(b2L.block Nq (by omega)).trans (by rw [← hw1, ← hNq]; exact heap_alloc_new w _), (b3L.block (Nq + 1) (by omega)).trans (by rw [← hw2, ← z1]; exact heap_alloc_new w1 _), (bL.block (Nq + 2) (by omega)).trans (by rw [← hw3, ← z2]; exact heap_alloc_new w2 _), by rw [← hwL, ← z3]; exact heap_alloc_new w3 _⟩
  have HBX := Lib.hid hBX
  have HBW : Hid (Below w.heap.size w wL) := Lib.hid (b1.trans (b2L.mono (by omega)))
  have h3 := h.below (b1.trans ((b2.trans (b3.mono (by omega))).mono (by omega)))
  obtain ⟨_, c1, _, _, _, _, _⟩ := h3.cells
  have hb23 : w3.heap[Nq]? = some (.cells #[.pointer (some ⟨K, 0, none⟩)] 24 (0, 0)) := ((b2.trans (b3.mono (by omega))).block Nq (by omega)).trans (by rw [← hw1, ← hNq]; exact heap_alloc_new w _)
  have q0 : w3.cell? ⟨Nq, 0, none⟩ = some (.pointer (some ⟨K, 0, none⟩)) := by rw [cell_of_row w3 Nq 0 _ 24 (0, 0) hb23]; rfl
  have HLL := Lib.hid (h.below HBW.out)
  have HH := Lib.hid h
  have cD := drain_any H w3
  rw [z3, hwL] at cD
  unfold seqV at cD
  have HZ := Lib.hid (And.intro zL hNq)
  have hsq := Try.isSeq
  clear b1 b2 b3 bL b3L b2L hBX h3 hb23 h zL hwL
  refine (callsIn_wide (n := 8)).1 ?_
  refine callsIn_of_wp_marks Try.func34 rfl trivial ?_ rfl
  simp only [Try.ntmps34, List.size_toArray, List.length_cons, List.length_nil, Nat.reduceAdd, Nat.reduceSub, Array.replicate_succ, Array.replicate_zero, List.push_toArray, List.append_toArray, List.nil_append, List.cons_append]
  gi_wp2_with fail
  refine ⟨trivial, (callsIn_wide.2 cD).mono ?_⟩
  rintro e w5 ⟨rfl, rfl⟩
  clear cD
  gi_wp2_with fail
  refine wpIn_range_hand (σ := Value × List Ent) (α := Ent) (encs := fun x => #[entV x]) rfl (by omega) (gf := 54) (lb := #[.pointer (some ⟨Nq + 3, 0, none⟩)]) rfl trivial (enters_of Try.func54 (by kernel_rfl) rfl)
    (drain_hand (B := 0) (K := H) (pu := hu) (pk := hk) (lz_bet T tv tb J c) (Nq + 3) 7 (by omega)) (fun _ => rfl) (fun s W V ho hf => Kept.others hf ho.1.blocks)
    (fun s W => s = (v, A) ∧ Below w5.heap.size w5 W)
    (fun cc W => cc = .ret ∧ TkIx w5 K T H m (Nq + 1) (Nq + 2) c v A hu hk J q W)
    (fun W => A = [] ∧ Kept (mine H v) w5 W ∧ Hp W 0 H (ordV c) v [] hu hk) (v, A)
    (fun s W h => by obtain ⟨rfl, h⟩ := h; exact tk_own HLL.out HBX.out h) (fun s W V h k => ⟨h.1, h.2.trans (k.below (Nat.le_refl _) h.2.size)⟩)
    (fun cc W V h k => by obtain ⟨h1, i, t, v', A', h2, h3⟩ := h; exact ⟨h1, i, t, v', A', h2, h3.blink k (Nat.le_refl _)⟩)
    (fun W V h k => ⟨h.1, h.2.1.blink k (Nat.le_refl _), h.2.2.blink k⟩)
    ⟨rfl, Below.refl _ _⟩
    (fun s W V h hf ho hfr => by
      obtain ⟨rfl, h⟩ := h
      have e : A = [] := hf
      subst e
      exact ⟨rfl, (Kept.of_below (S := mine H v) h (Nat.le_refl _)).trans hfr fun _ _ h => h, ho.1⟩) ?round ?done ?stop
  case round =>
    rintro l s x ⟨v', A'⟩ W V ⟨rfl, hW⟩ hn ho hf
    obtain ⟨t, et, hpt, hob⟩ := hn
    simp only at et hpt hob
    have hxf := HLL.out.heap.fits x (by rw [et]; exact List.mem_cons_self)
    have hxi := fits_form hxf
    obtain ⟨i, hi⟩ : ∃ i, itemOf x = i := ⟨_, rfl⟩
    rw [hi] at hxi
    subst hxi
    have hie : i ∈ q.ents := by
      have h1 : entOf i ∈ q.ents.map entOf := HLL.out.perm.mem_iff.1 (by rw [et]; exact List.mem_cons_self)
      obtain ⟨j, hj, e⟩ := List.mem_map.1 h1
      rw [← ent_inj e]; exact hj
    obtain ⟨f1, f2, f3, f4⟩ := HLL.out.sane.ents i hie
    obtain ⟨M, hM⟩ : ∃ M, V.heap.size = M := ⟨_, rfl⟩
    obtain ⟨a, b, n⟩ := i
    have hKV : Kept (mine H v) w5 V := (Kept.of_below (S := mine H v) hW (Nat.le_refl _)).trans hf fun _ _ h => h
    have HKV := Lib.hid hKV; have HO := Lib.hid ho; have HET := Lib.hid et; have HPT := Lib.hid hpt; have HOB := Lib.hid hob
    have HFI := Lib.hid (And.intro f1 (And.intro f2 f3))
    clear hKV ho et hpt hob hW hf hxf hie hi f1 f2 f3 f4
    unfold entV
    gi_wp2
    refine ⟨KeepsOthers.alloc _ _, fun V2 hb2 => ?_⟩
    have hbx := box_blink (BoxI.new V a b n a b n).heap hb2
    rw [hM] at hbx
    have hK2 : Kept (mine H v) w5 V2 := (HKV.out.alloc _).blink hb2 (Nat.le_refl _)
    have hP2 : Hp V2 0 H (ordV c) v' A' hu hk := (HO.out.1.kept fun k hk1 _ => Below.heap_alloc _ _ _ hk1).blink hb2
    have hNm : ∀ k, Nq ≤ k → ¬ mine H v k := fun k hk1 hk2 => by
      have := HH.out.lt k (.inl (.inr (.inr hk2)))
      have := HZ.out.2
      omega
    have hz5 := HZ.out.1
    have hKlt : K < Nq := by rw [← HZ.out.2]; exact HH.out.ltK
    have hbK2 := (hK2.block K (by omega) HLL.out.apart.2.1).trans HLL.out.box
    have hE2 : Env V2 T tv tb J c := HLL.out.env.kept fun k h1 h2 => hK2.block k h1 fun e => HLL.out.hap k e h2
    have htee : LzT V2 K T tv tb J := ⟨by rw [cell_of_row V2 K _ _ 66 (0, 0) hbK2]; rfl, hE2.tab, hE2.few⟩
    have cP := place_any (a, b, n) htee HFI.out.1
    rw [place_there (x := (a, b, n)) HFI.out.2.1 HFI.out.2.2] at cP
    unfold itemV entV entOf at cP
    simp only at cP
    have hbq2 := (hK2.block Nq (by omega) (hNm Nq (by omega))).trans HBX.out.bq
    have hbr2 := (hK2.block (Nq + 1) (by omega) (hNm (Nq + 1) (by omega))).trans HBX.out.br
    have hbb2 := (hK2.block (Nq + 2) (by omega) (hNm (Nq + 2) (by omega))).trans HBX.out.bb
    have q2 : V2.cell? ⟨Nq, 0, none⟩ = some (.pointer (some ⟨K, 0, none⟩)) := by rw [cell_of_row V2 Nq 0 _ 24 (0, 0) hbq2]; rfl
    have m0 : V2.cell? ⟨M, 0, none⟩ = some (.int .i64 a) := by rw [cell_of_row V2 M _ _ 61 (0, 0) hbx]; rfl
    have m1 : V2.cell? ⟨M, 1, none⟩ = some (.int .i64 b) := by rw [cell_of_row V2 M _ _ 61 (0, 0) hbx]; rfl
    have m2 : V2.cell? ⟨M, 2, none⟩ = some (.int .i64 n) := by rw [cell_of_row V2 M _ _ 61 (0, 0) hbx]; rfl
    have HX2 := Lib.hid (And.intro hbx (And.intro hbK2 (And.intro hbq2 (And.intro hbr2 hbb2))))
    have HK2 := Lib.hid hK2; have HP2 := Lib.hid hP2; have HNM := Lib.hid hNm
    clear hb2 hbx hK2 hP2 hNm hbK2 hE2 htee hbq2 hbr2 hbb2
    gi_wp2_with fail
    refine ⟨trivial, (CallsIn.inRound l (callsIn_wide.2 cP)).mono ?_⟩
    rintro e V3 ⟨rfl, hg3⟩
    clear cP
    obtain ⟨V4, hV4⟩ : ∃ V4, V3.alloc (.cells #[.int .i64 a, .int .i64 b, .int .i64 n, .int .i64 a, .int .i64 b, .int .i64 n] 61) = V4 := ⟨_, rfl⟩
    have hg4 : Grown V2 V4 := by rw [← hV4]; exact hg3.alloc _
    have hb5 : V4.heap[V3.heap.size]? = some (.cells #[.int .i64 a, .int .i64 b, .int .i64 n, .int .i64 a, .int .i64 b, .int .i64 n] 61 (0, 0)) := by rw [← hV4]; exact heap_alloc_new V3 _
    obtain ⟨M5, hM5⟩ : ∃ M5, V3.heap.size = M5 := ⟨_, rfl⟩
    rw [hM5] at hb5
    obtain ⟨x1, x2, x3, x4, x5⟩ := HX2.out
    have lt : ∀ {k : Nat} {cs : Array Value} {ty : TypeId} {fr : Nat × Nat}, V2.heap[k]? = some (.cells cs ty fr) → V4.heap[k]? = some (.cells cs ty fr) := fun {k cs ty fr} h => (hg4.below.block k (Array.getElem?_eq_some_iff.1 h).1).trans h
    have y1 := lt x1
    have y2 := lt x2
    have y3 := lt x3
    have y4 := lt x4
    have y5 := lt x5
    have q4 : V4.cell? ⟨Nq, 0, none⟩ = some (.pointer (some ⟨K, 0, none⟩)) := by rw [cell_of_row V4 Nq 0 _ 24 (0, 0) y3]; rfl
    have r0 : V4.cell? ⟨M, 0, none⟩ = some (.int .i64 a) := by rw [cell_of_row V4 M _ _ 61 (0, 0) y1]; rfl
    have s0 : V4.cell? ⟨M5, 0, none⟩ = some (.int .i64 a) := by rw [cell_of_row V4 M5 _ _ 61 (0, 0) hb5]; rfl
    have r1 : V4.cell? ⟨M, 1, none⟩ = some (.int .i64 b) := by rw [cell_of_row V4 M _ _ 61 (0, 0) y1]; rfl
    have s1 : V4.cell? ⟨M5, 1, none⟩ = some (.int .i64 b) := by rw [cell_of_row V4 M5 _ _ 61 (0, 0) hb5]; rfl
    have r2 : V4.cell? ⟨M, 2, none⟩ = some (.int .i64 n) := by rw [cell_of_row V4 M _ _ 61 (0, 0) y1]; rfl
    have s2 : V4.cell? ⟨M5, 2, none⟩ = some (.int .i64 n) := by rw [cell_of_row V4 M5 _ _ 61 (0, 0) hb5]; rfl
    have r3 : V4.cell? ⟨M, 3, none⟩ = some (.int .i64 a) := by rw [cell_of_row V4 M _ _ 61 (0, 0) y1]; rfl
    have s3 : V4.cell? ⟨M5, 3, none⟩ = some (.int .i64 a) := by rw [cell_of_row V4 M5 _ _ 61 (0, 0) hb5]; rfl
    have r4 : V4.cell? ⟨M, 4, none⟩ = some (.int .i64 b) := by rw [cell_of_row V4 M _ _ 61 (0, 0) y1]; rfl
    have s4 : V4.cell? ⟨M5, 4, none⟩ = some (.int .i64 b) := by rw [cell_of_row V4 M5 _ _ 61 (0, 0) hb5]; rfl
    have r5 : V4.cell? ⟨M, 5, none⟩ = some (.int .i64 n) := by rw [cell_of_row V4 M _ _ 61 (0, 0) y1]; rfl
    have s5 : V4.cell? ⟨M5, 5, none⟩ = some (.int .i64 n) := by rw [cell_of_row V4 M5 _ _ 61 (0, 0) hb5]; rfl
    have k6 : V4.cell? ⟨K, 6, none⟩ = some (.int .i64 q.po) := by rw [cell_of_row V4 K _ _ 66 (0, 0) y2]; rfl
    have k7 : V4.frozen? ⟨K, 6, none⟩ = false := Lib.frozen_of_heap y2 _
    have heq := ent_eql_yes a b n
    have hpo : IntKind.i64.wrap (q.po + 1) = q.po + 1 := IntWalk.i64_in _ (by have h1 := HLL.out.sane.po; have h2 := HLL.out.sane.cnt; omega)
    obtain ⟨V5, hV5⟩ : ∃ V5, V4.setCell ⟨K, 6, none⟩ (.int .i64 (q.po + 1)) = V5 := ⟨_, rfl⟩
    have hKM : K ≠ M := fun e => by rw [e, y1] at y2; cases y2
    have hKN : ∀ k, Nq ≤ k → k ≠ K := fun k h e => by omega
    have b5 := heap_setCell_at y2 (i := 6) (.int .i64 (q.po + 1))
    rw [hV5] at b5
    have k5 : ∀ k, k ≠ K → V5.heap[k]? = V4.heap[k]? := fun k hk1 => by rw [← hV5, Below.heap_setCell _ ⟨K, 6, none⟩ _ k hk1]
    have u1 := (k5 M fun e => hKM e.symm).trans y1
    have u4 := (k5 (Nq + 1) (hKN _ (by omega))).trans y4
    have u5 := (k5 (Nq + 2) (hKN _ (by omega))).trans y5
    have t0 : V5.cell? ⟨M, 0, none⟩ = some (.int .i64 a) := by rw [cell_of_row V5 M _ _ 61 (0, 0) u1]; rfl
    have vc0 : V5.cell? ⟨Nq + 1, 0, none⟩ = some (.int .i64 0) := by rw [cell_of_row V5 (Nq + 1) _ _ 48 (0, 0) u4]; rfl
    have wf0 : V5.frozen? ⟨Nq + 1, 0, none⟩ = false := Lib.frozen_of_heap u4 _
    have t1 : V5.cell? ⟨M, 1, none⟩ = some (.int .i64 b) := by rw [cell_of_row V5 M _ _ 61 (0, 0) u1]; rfl
    have vc1 : V5.cell? ⟨Nq + 1, 1, none⟩ = some (.int .i64 0) := by rw [cell_of_row V5 (Nq + 1) _ _ 48 (0, 0) u4]; rfl
    have wf1 : V5.frozen? ⟨Nq + 1, 1, none⟩ = false := Lib.frozen_of_heap u4 _
    have t2 : V5.cell? ⟨M, 2, none⟩ = some (.int .i64 n) := by rw [cell_of_row V5 M _ _ 61 (0, 0) u1]; rfl
    have vc2 : V5.cell? ⟨Nq + 1, 2, none⟩ = some (.int .i64 0) := by rw [cell_of_row V5 (Nq + 1) _ _ 48 (0, 0) u4]; rfl
    have wf2 : V5.frozen? ⟨Nq + 1, 2, none⟩ = false := Lib.frozen_of_heap u4 _
    obtain ⟨V6, hV6⟩ : ∃ V6, ((V5.setCell ⟨Nq + 1, 0, none⟩ (.int .i64 a)).setCell ⟨Nq + 1, 1, none⟩ (.int .i64 b)).setCell ⟨Nq + 1, 2, none⟩ (.int .i64 n) = V6 := ⟨_, rfl⟩
    have b6 := heap_setCell_at (heap_setCell_at (heap_setCell_at u4 (i := 0) (.int .i64 a)) (i := 1) (.int .i64 b)) (i := 2) (.int .i64 n)
    rw [hV6] at b6
    have k66 : ∀ k, k ≠ Nq + 1 → V6.heap[k]? = V5.heap[k]? := fun k hk1 => by rw [← hV6, Below.heap_setCell _ ⟨Nq + 1, 2, none⟩ _ k hk1, Below.heap_setCell _ ⟨Nq + 1, 1, none⟩ _ k hk1, Below.heap_setCell _ ⟨Nq + 1, 0, none⟩ _ k hk1]
    have a5 := (k66 (Nq + 2) (by omega)).trans u5
    have p0 : V6.cell? ⟨Nq + 2, 0, none⟩ = some (.bool false) := by rw [cell_of_row V6 (Nq + 2) _ _ 4 (0, 0) a5]; rfl
    have p1 : V6.frozen? ⟨Nq + 2, 0, none⟩ = false := Lib.frozen_of_heap a5 _
    obtain ⟨V7, hV7⟩ : ∃ V7, V6.setCell ⟨Nq + 2, 0, none⟩ (.bool true) = V7 := ⟨_, rfl⟩
    have b7 := heap_setCell_at a5 (i := 0) (.bool true)
    rw [hV7] at b7
    have k77 : ∀ k, k ≠ Nq + 2 → V7.heap[k]? = V6.heap[k]? := fun k hk1 => by rw [← hV7, Below.heap_setCell _ ⟨Nq + 2, 0, none⟩ _ k hk1]
    have hkp4 : Kept (fun k => mine H v k ∨ k = K ∨ k = Nq + 1 ∨ k = Nq + 2) w5 V4 := ((Kept.refl (fun k => mine H v k ∨ k = K ∨ k = Nq + 1 ∨ k = Nq + 2) w5).trans HK2.out fun _ _ h => .inl h).trans (Kept.of_below (S := fun k => mine H v k ∨ k = K ∨ k = Nq + 1 ∨ k = Nq + 2) hg4.below (Nat.le_refl _)) fun _ _ h => h
    have hkp7 : Kept (fun k => mine H v k ∨ k = K ∨ k = Nq + 1 ∨ k = Nq + 2) w5 V7 := by
      rw [← hV7, ← hV6, ← hV5]
      exact ((((hkp4.setCell ⟨K, 6, none⟩ _ fun _ => .inr (.inl rfl)).setCell ⟨Nq + 1, 0, none⟩ _ fun _ => .inr (.inr (.inl rfl))).setCell ⟨Nq + 1, 1, none⟩ _ fun _ => .inr (.inr (.inl rfl))).setCell ⟨Nq + 1, 2, none⟩ _ fun _ => .inr (.inr (.inl rfl))).setCell ⟨Nq + 2, 0, none⟩ _ fun _ => .inr (.inr (.inr rfl))
    have hmm : ∀ k, mine H v' k → mine H v k := fun k hk1 => by unfold mine at hk1 ⊢; rwa [HOB.out] at hk1
    have hP7 : Hp V7 0 H (ordV c) v' A' hu hk := (HP2.out.grown hg4).kept fun k _ hk2 => by
      have h1 := hmm k hk2
      have h2 : k ≠ K := fun e => HLL.out.apart.2.1 (e ▸ h1)
      have h3 : k ≠ Nq + 1 := fun e => HNM.out (Nq + 1) (by omega) (e ▸ h1)
      have h4 : k ≠ Nq + 2 := fun e => HNM.out (Nq + 2) (by omega) (e ▸ h1)
      rw [k77 k h4, k66 k h3, k5 k h2]
    have HX7 : Hid (TkX w5 K T H m (Nq + 1) (Nq + 2) c v hu hk J q (a, b, n) t v' A' V7) := Lib.hid
      ⟨HPT.out, HO.out.2.1, hP7, HOB.out, hkp7, (k77 K (by omega)).trans ((k66 K (by omega)).trans b5), (k77 (Nq + 1) (by omega)).trans b6, b7⟩
    have HKO : Hid (KeepsOthers V2 V7) := Lib.hid (by
      have h1 : KeepsOthers V2 V4 := Kept.others (Kept.of_below (S := fun _ => False) hg4.below (Nat.le_refl _)) fun _ h => h.elim
      rw [← hV7, ← hV6, ← hV5]
      exact ((((h1.trans (KeepsOthers.setCell _ _ _)).trans (KeepsOthers.setCell _ _ _)).trans (KeepsOthers.setCell _ _ _)).trans (KeepsOthers.setCell _ _ _)).trans (KeepsOthers.setCell _ _ _))
    clear x1 x2 x3 x4 x5 lt y1 y2 y3 y4 y5 hb5 hg3 hg4 b5 k5 u1 u4 u5 b6 k66 a5 b7 k77 hkp4 hkp7 hmm hP7 hKM hKN hKlt hz5
    gi_wp2
    exact ⟨HKO.out, rfl, (a, b, n), t, v', A', HET.out, HX7.out⟩
  case done =>
    rintro D W ⟨rfl, hkW, hpW⟩ hD hDl
    have hNm : ∀ k, Nq ≤ k → ¬ mine H v k := fun k hk1 hk2 => by
      have := HH.out.lt k (.inl (.inr (.inr hk2)))
      have := HZ.out.2
      omega
    have hz5 := HZ.out.1
    have hbr := (hkW.block (Nq + 1) (by omega) (hNm (Nq + 1) (by omega))).trans HBX.out.br
    have hbb := (hkW.block (Nq + 2) (by omega) (hNm (Nq + 2) (by omega))).trans HBX.out.bb
    have e0 : W.cell? ⟨Nq + 1, 0, none⟩ = some (.int .i64 0) := by rw [cell_of_row W (Nq + 1) _ _ 48 (0, 0) hbr]; rfl
    have e1 : W.cell? ⟨Nq + 1, 1, none⟩ = some (.int .i64 0) := by rw [cell_of_row W (Nq + 1) _ _ 48 (0, 0) hbr]; rfl
    have e2 : W.cell? ⟨Nq + 1, 2, none⟩ = some (.int .i64 0) := by rw [cell_of_row W (Nq + 1) _ _ 48 (0, 0) hbr]; rfl
    have f0 : W.frozen? ⟨Nq + 1, 0, none⟩ = false := Lib.frozen_of_heap hbr _
    have f1 : W.frozen? ⟨Nq + 1, 1, none⟩ = false := Lib.frozen_of_heap hbr _
    have f2 : W.frozen? ⟨Nq + 1, 2, none⟩ = false := Lib.frozen_of_heap hbr _
    obtain ⟨W6, hW6⟩ : ∃ W6, ((W.setCell ⟨Nq + 1, 0, none⟩ (.int .i64 0)).setCell ⟨Nq + 1, 1, none⟩ (.int .i64 0)).setCell ⟨Nq + 1, 2, none⟩ (.int .i64 0) = W6 := ⟨_, rfl⟩
    have b6 := heap_setCell_at (heap_setCell_at (heap_setCell_at hbr (i := 0) (.int .i64 0)) (i := 1) (.int .i64 0)) (i := 2) (.int .i64 0)
    rw [hW6] at b6
    have k66 : ∀ k, k ≠ Nq + 1 → W6.heap[k]? = W.heap[k]? := fun k hk1 => by rw [← hW6, Below.heap_setCell _ ⟨Nq + 1, 2, none⟩ _ k hk1, Below.heap_setCell _ ⟨Nq + 1, 1, none⟩ _ k hk1, Below.heap_setCell _ ⟨Nq + 1, 0, none⟩ _ k hk1]
    have a5 := (k66 (Nq + 2) (by omega)).trans hbb
    have p0 : W6.cell? ⟨Nq + 2, 0, none⟩ = some (.bool false) := by rw [cell_of_row W6 (Nq + 2) _ _ 4 (0, 0) a5]; rfl
    have p1 : W6.frozen? ⟨Nq + 2, 0, none⟩ = false := Lib.frozen_of_heap a5 _
    obtain ⟨W7, hW7⟩ : ∃ W7, W6.setCell ⟨Nq + 2, 0, none⟩ (.bool false) = W7 := ⟨_, rfl⟩
    have b7 := heap_setCell_at a5 (i := 0) (.bool false)
    rw [hW7] at b7
    have k77 : ∀ k, k ≠ Nq + 2 → W7.heap[k]? = W6.heap[k]? := fun k hk1 => by rw [← hW7, Below.heap_setCell _ ⟨Nq + 2, 0, none⟩ _ k hk1]
    have hDne : D ≠ Nq + 1 ∧ D ≠ Nq + 2 := ⟨(fun e => by rw [e, hbr] at hD; cases hD), (fun e => by rw [e, hbb] at hD; cases hD)⟩
    have hD7 : W7.heap[D]? = some (.deferred (some [])) := (k77 D hDne.2).trans ((k66 D hDne.1).trans hD)
    have hk7 : Kept (fun k => mine H v k ∨ k = Nq + 1 ∨ k = Nq + 2) w5 W7 := by
      have h0 : Kept (fun k => mine H v k ∨ k = Nq + 1 ∨ k = Nq + 2) w5 W := (Kept.refl (fun k => mine H v k ∨ k = Nq + 1 ∨ k = Nq + 2) w5).trans hkW fun _ _ h => .inl h
      rw [← hW7, ← hW6]
      exact (((h0.setCell ⟨Nq + 1, 0, none⟩ _ fun _ => .inr (.inl rfl)).setCell ⟨Nq + 1, 1, none⟩ _ fun _ => .inr (.inl rfl)).setCell ⟨Nq + 1, 2, none⟩ _ fun _ => .inr (.inl rfl)).setCell ⟨Nq + 2, 0, none⟩ _ fun _ => .inr (.inr rfl)
    have hp7 : Hp W7 0 H (ordV c) v [] hu hk := hpW.kept fun k _ hk2 => by
      have h3 : k ≠ Nq + 1 := fun e => hNm (Nq + 1) (by omega) (e ▸ hk2)
      have h4 : k ≠ Nq + 2 := fun e => hNm (Nq + 2) (by omega) (e ▸ hk2)
      rw [k77 k h4, k66 k h3]
    have hbl := Blink.putObj (B := w5.heap.size) (.deferred none) hDl hD7 rfl
    have hfin := tk_none (Nr := Nq + 1) (Nb := Nq + 2) HH.out HLL.out HBW.out (by rw [HZ.out.2]; omega) (by rw [HZ.out.2]; omega) (hp7.blink hbl) (hk7.blink hbl (Nat.le_refl _))
    have HF := Lib.hid hfin; have HD7 := Lib.hid hD7
    have HB6 := Lib.hid ((k77 (Nq + 1) (by omega)).trans b6); have HB7 := Lib.hid b7
    have HDN := Lib.hid hDne
    clear hkW hpW hD hDl hNm hz5 hbr hbb b6 k66 a5 b7 k77 hD7 hk7 hp7 hbl hfin hDne
    gi_wp2
    refine ⟨by simp, .inl ⟨_, _, rfl, run_takeDeferred HD7.out, ?_⟩⟩
    have g1 := (World.putObj_heap_other (w := W7) (o := .deferred none) (Ne.symm HDN.out.1)).trans HB6.out
    have g2 := (World.putObj_heap_other (w := W7) (o := .deferred none) (Ne.symm HDN.out.2)).trans HB7.out
    have x0 := cell_of_row _ (Nq + 1) 0 _ 48 (0, 0) g1
    have x1 := cell_of_row _ (Nq + 1) 1 _ 48 (0, 0) g1
    have x2 := cell_of_row _ (Nq + 1) 2 _ 48 (0, 0) g1
    have x3 := cell_of_row _ (Nq + 2) 0 _ 4 (0, 0) g2
    refine ⟨.tuple #[itemV (0, 0, 0), .bool false], (by rw [results_cell2 rfl]; simp [go_sem, itemV, x0, x1, x2, x3]), ?_⟩
    exact .inl ⟨HF.out.1, rfl, HF.out.2⟩
  case stop =>
    rintro D cc W ⟨rfl, i, t, v', A', et, hx⟩ hD hDl
    have hbl := Blink.putObj (B := w5.heap.size) (.deferred none) hDl hD rfl
    have hfin := tk_end HH.out HLL.out HBW.out (by rw [HZ.out.2]; omega) (by rw [HZ.out.2]; omega) et hx hbl
    have HF := Lib.hid hfin
    have hv := hx.blink hbl (Nat.le_refl _)
    have x0 := cell_of_row _ (Nq + 1) 0 _ 48 (0, 0) hv.br
    have x1 := cell_of_row _ (Nq + 1) 1 _ 48 (0, 0) hv.br
    have x2 := cell_of_row _ (Nq + 1) 2 _ 48 (0, 0) hv.br
    have x3 := cell_of_row _ (Nq + 2) 0 _ 4 (0, 0) hv.bb
    clear hfin
    gi_wp2
    refine ⟨by simp, .inl ⟨_, _, rfl, run_takeDeferred hD, ?_⟩⟩
    refine ⟨.tuple #[itemV i, .bool true], (by rw [results_cell2 rfl]; simp [go_sem, itemV, x0, x1, x2, x3]), ?_⟩
    obtain ⟨r, h1, h2, h3⟩ := HF.out
    exact .inr ⟨i, r, h1, h2, rfl, h3⟩
end Go.Proofs.Ytbnekkcjkdghcaa
/- Pop. -/
namespace Go.Proofs.Ytbnekkcjkdghcaa
open Go.RowKit Go.Maps Go.Shelf
open Go.Sort (grow grow_empty grow_grow alloc_eq_grow heap_grow_old)
variable {w w' : World} {K T H c m : Nat} {v : Value} {A : List Ent} {hu hk : Int} {tv : Value} {tb : Option Nat} {J : List Joint} {q q' : Qm}

/-- What is live: a function that only lays blocks, and may read blocks of its own (Bk), in a world where E holds. -/
structure LiveF (g : Nat) (lb : Array Value) (f : Int × Int → Int) (E : World → Prop) (Bk : Nat → Prop) : Prop where
  enter : ∀ (args : Array Value) (w : World), (callFunc g args).run Try.prog w = .ok (.enter g args) w
  calls : ∀ (a b : Int) (w : World), FitsPr (a, b) → E w → Calls Try.prog g (#[.agg #[.int .i64 a, .int .i64 b]] ++ lb) w fun e w' => e = .returned (.int .i64 (f (a, b))) ∧ Grown w w'
  keep : ∀ (w w' : World), E w → w.heap.size ≤ w'.heap.size → (∀ k, k < w.heap.size → Bk k → w'.heap[k]? = w.heap[k]?) → E w'
  lt : ∀ (w : World), E w → ∀ k, Bk k → k < w.heap.size
set_option maxRecDepth 100000 in
theorem LiveF.grown {g : Nat} {lb : Array Value} {f : Int × Int → Int} {E : World → Prop} {Bk : Nat → Prop} (L : LiveF g lb f E Bk) (h : E w) (k : Grown w w') : E w' := L.keep w w' h k.below.size fun i hi _ => k.below.block i hi
set_option maxRecDepth 100000 in
theorem LiveF.kept {g : Nat} {lb : Array Value} {f : Int × Int → Int} {E : World → Prop} {Bk S : Nat → Prop} (L : LiveF g lb f E Bk) (h : E w) (k : Kept S w w') (hS : ∀ i, S i → ¬ Bk i) : E w' := L.keep w w' h k.size fun i hi hb => k.block i hi fun hs => hS i hs hb
set_option maxRecDepth 100000 in
theorem Try.isLive (g : Nat) (lb : Array Value) (w : World) : (binOp BinOp.eql 46 (Value.func (Fn.func g) #[] lb) Value.nilFunc).run Try.prog w = .ok (.bool false) w := by kernel_rfl
set_option maxRecDepth 100000 in
theorem Try.noLive (w : World) : (binOp BinOp.eql 46 Value.nilFunc Value.nilFunc).run Try.prog w = .ok (.bool true) w := by kernel_rfl
/-- What Pop tells. -/
def popV : Option Item → Value
  | .none => .tuple #[itemV (0, 0, 0), .bool false]
  | .some x => .tuple #[itemV x, .bool true]
def LPopRet (w : World) (K T H c m : Nat) (v : Value) (tv : Value) (tb : Option Nat) (J : List Joint) (f : Int × Int → Int) (q : Qm) (e : Ending) (w' : World) : Prop :=
  ∃ o l n, Pops J f q.ents o l n ∧ e = .returned (popV o) ∧ LRet w K T H c m v tv tb J (popQ q o l n) w'
set_option maxRecDepth 100000 in
theorem LzIn.other (h : LzIn w K T H c m v A hu hk tv tb J q) {k : Nat} {cs : Array Value} {t : TypeId} {fr : Nat × Nat} (hk0 : w.heap[k]? = some (.cells cs t fr)) (h1 : 66 ≠ t) (h2 : 86 ≠ t) (h3 : 61 ≠ t) : ¬ mineL K H m v k := by
  have hkk := kind_cells hk0
  rintro (rfl | rfl | rfl | e)
  · rw [h.kindK] at hkk; exact h1 (Nat.succ.inj hkk)
  · rw [h.kindM] at hkk; cases hkk
  · rw [h.kindH] at hkk; exact h2 (Nat.succ.inj hkk)
  · rw [h.kindR e] at hkk; exact h3 (Nat.succ.inj hkk)
set_option maxRecDepth 100000 in
theorem LzIn.other2 (h : LzIn w K T H c m v A hu hk tv tb J q) {k : Nat} {cs : Array Value} {t : TypeId} {fr : Nat × Nat} (hk0 : w.heap[k]? = some (.cells cs t fr)) (h1 : 70 ≠ t) (h2 : 111 ≠ t) (h3 : 26 ≠ t) : ¬ lzBet T c tv tb k := by
  have hkk := kind_cells hk0
  intro e
  rcases h.kindT e with e | e | e | ⟨e, _⟩
  · rw [e] at hkk; exact h1 (Nat.succ.inj hkk)
  · rw [e] at hkk; exact h2 (Nat.succ.inj hkk)
  · rw [e] at hkk; exact h3 (Nat.succ.inj hkk)
  · rw [e] at hkk; cases hkk
set_option maxRecDepth 100000 in
/-- No block of the order's is one of the queue's, ever. -/
theorem lret_out {H' c' : Nat} {v' : Value} {A' : List Ent} {hu' hk' : Int} (h : LzIn w K T H c m v A hu hk tv tb J q) (h' : LzIn w' K T H' c' m v' A' hu' hk' tv tb J q') (hkp : Kept (mineL K H m v) w w')
    (ho : ∀ k, (mineL K H' m v' k ∨ k = c') → k < w.heap.size → mineL K H m v k ∨ k = c) : ∀ k, mineL K H' m v' k → k < w.heap.size → mineL K H m v k := by
  intro k h1 h2
  rcases ho k (.inl h1) h2 with h3 | rfl
  · exact h3
  · exact absurd h1 (h'.other ((hkp.block k h2 (h.apart.1 k (.inr rfl))).trans h.env.box) (by decide) (by decide) (by decide))
/-- So far: n entries were taken, none was live. -/
structure PpS (w0 : World) (K T H c m : Nat) (v : Value) (tv : Value) (tb : Option Nat) (J : List Joint) (f : Int × Int → Int) (q : Qm) (Nr : Nat) (r : List Item) (n : Nat) (H1 c1 : Nat) (v1 : Value) (A1 : List Ent) (hu1 hk1 : Int) (wr : World) : Prop where
  lz : LzIn wr K T H1 c1 m v1 A1 hu1 hk1 tv tb J { q with ents := r, po := q.po + n }
  pops : ∀ o l k, Pops J f r o l k → Pops J f q.ents o l (k + n)
  kept : Kept (mineL K H m v) w0 wr
  out : ∀ k, mineL K H1 m v1 k → k < w0.heap.size → mineL K H m v k
  outc : c1 < w0.heap.size → mineL K H m v c1 ∨ c1 = c
  br : wr.heap[Nr]? = some (.cells #[.int .i64 0, .int .i64 0, .int .i64 0] 48 (0, 0))
/-- Behind a take. -/
structure PpT (w0 : World) (K T H c m : Nat) (v : Value) (tv : Value) (tb : Option Nat) (J : List Joint) (q : Qm) (Nr : Nat) (r : List Item) (po : Int) (H1 c1 : Nat) (v1 : Value) (A1 : List Ent) (hu1 hk1 : Int) (wr : World) : Prop where
  lz : LzIn wr K T H1 c1 m v1 A1 hu1 hk1 tv tb J { q with ents := r, po := po }
  kept : Kept (mineL K H m v) w0 wr
  out : ∀ k, mineL K H1 m v1 k → k < w0.heap.size → mineL K H m v k
  outc : c1 < w0.heap.size → mineL K H m v c1 ∨ c1 = c
  br : wr.heap[Nr]? = some (.cells #[.int .i64 0, .int .i64 0, .int .i64 0] 48 (0, 0))
set_option maxRecDepth 100000 in
theorem PpS.took {w0 wr w2 : World} {f : Int × Int → Int} {Nr : Nat} {r r2 : List Item} {n : Nat} {H1 c1 : Nat} {v1 : Value} {A1 : List Ent} {hu1 hk1 : Int} {po : Int} (h : PpS w0 K T H c m v tv tb J f q Nr r n H1 c1 v1 A1 hu1 hk1 wr)
    (hr : LRet wr K T H1 c1 m v1 tv tb J { q with ents := r2, po := po } w2) : ∃ H2 c2 v2 A2 hu2 hk2, PpT w0 K T H c m v tv tb J q Nr r2 po H2 c2 v2 A2 hu2 hk2 w2 := by
  obtain ⟨H2, c2, v2, A2, hu2, hk2, b1, b2, b3⟩ := hr
  have hs := h.kept.size
  have hoo := lret_out h.lz b1 b2 b3
  refine ⟨H2, c2, v2, A2, hu2, hk2, b1, h.kept.trans b2 fun k h1 h2 => h.out k h2 h1, fun k h1 h2 => h.out k (hoo k h1 (by omega)) h2, fun h2 => ?_, (b2.block Nr (Array.getElem?_eq_some_iff.1 h.br).1 (h.lz.other h.br (by decide) (by decide) (by decide))).trans h.br⟩
  rcases b3 c2 (.inr rfl) (by omega) with h3 | h3
  · exact .inl (h.out c2 h3 h2)
  · rw [h3] at h2 ⊢
    exact h.outc h2
set_option maxRecDepth 100000 in
theorem PpT.grown {w0 wr w2 : World} {Nr : Nat} {r : List Item} {H1 c1 : Nat} {v1 : Value} {A1 : List Ent} {hu1 hk1 : Int} {po : Int} (h : PpT w0 K T H c m v tv tb J q Nr r po H1 c1 v1 A1 hu1 hk1 wr) (hg : Grown wr w2) : PpT w0 K T H c m v tv tb J q Nr r po H1 c1 v1 A1 hu1 hk1 w2 :=
  ⟨h.lz.grown hg, h.kept.grow hg, h.out, h.outc, (hg.below.block Nr (Array.getElem?_eq_some_iff.1 h.br).1).trans h.br⟩
set_option maxRecDepth 100000 in
theorem PpT.drew {w0 wr : World} {Nr : Nat} {r : List Item} {H1 c1 : Nat} {v1 : Value} {A1 : List Ent} {hu1 hk1 : Int} {po : Int} (h : PpT w0 K T H c m v tv tb J q Nr r po H1 c1 v1 A1 hu1 hk1 wr) : PpT w0 K T H c m v tv tb J q Nr r po H1 c1 v1 A1 hu1 hk1 wr.drew :=
  ⟨h.lz.kept fun _ _ _ => rfl, h.kept.drew, h.out, h.outc, h.br⟩
set_option maxRecDepth 100000 in
/-- The result's box is written over, and Pop is at its end. -/
theorem PpT.fin {w0 wr : World} {Nr : Nat} {r : List Item} {H1 c1 : Nat} {v1 : Value} {A1 : List Ent} {hu1 hk1 : Int} {po : Int} (h : PpT w0 K T H c m v tv tb J q Nr r po H1 c1 v1 A1 hu1 hk1 wr) (hN : w0.heap.size ≤ Nr) (a b d : Value) :
    LRet w0 K T H c m v tv tb J { q with ents := r, po := po } (((wr.setCell ⟨Nr, 0, none⟩ a).setCell ⟨Nr, 1, none⟩ b).setCell ⟨Nr, 2, none⟩ d) := by
  have hne : ∀ k, k ≠ Nr → (((wr.setCell ⟨Nr, 0, none⟩ a).setCell ⟨Nr, 1, none⟩ b).setCell ⟨Nr, 2, none⟩ d).heap[k]? = wr.heap[k]? := fun k hk1 => by
    rw [Below.heap_setCell _ ⟨Nr, 2, none⟩ _ k hk1, Below.heap_setCell _ ⟨Nr, 1, none⟩ _ k hk1, Below.heap_setCell _ ⟨Nr, 0, none⟩ _ k hk1]
  refine ⟨H1, c1, v1, A1, hu1, hk1, h.lz.kept fun k _ h2 => hne k ?_, ?_, fun k h1 h2 => ?_⟩
  · rintro rfl
    rcases h2 with h2 | h2
    · exact h.lz.other h.br (by decide) (by decide) (by decide) h2
    · exact h.lz.other2 h.br (by decide) (by decide) (by decide) h2
  · exact ((h.kept.setCell ⟨Nr, 0, none⟩ _ fun h => by have h' : Nr < w0.heap.size := h; omega).setCell ⟨Nr, 1, none⟩ _ fun h => by have h' : Nr < w0.heap.size := h; omega).setCell ⟨Nr, 2, none⟩ _ fun h => by have h' : Nr < w0.heap.size := h; omega
  · rcases h1 with h1 | rfl
    · exact .inl (h.out k h1 h2)
    · exact h.outc h2
set_option maxRecDepth 100000 in
/-- The map forgets a pair. -/
theorem PpT.drop {w0 wr w2 : World} {Nr : Nat} {r : List Item} {H1 c1 : Nat} {v1 : Value} {A1 : List Ent} {hu1 hk1 : Int} {po : Int} {M : Cn} (h : PpT w0 K T H c m v tv tb J q Nr r po H1 c1 v1 A1 hu1 hk1 wr) (hg : wr.grownBy w2 (some m)) (hM : CMap w2 m M) (hs : SaneQ J ⟨r, M, q.pu, po, q.pk, q.re⟩) : PpT w0 K T H c m v tv tb J { q with known := M } Nr r po H1 c1 v1 A1 hu1 hk1 w2 :=
  ⟨h.lz.mapped hg hM hs, h.kept.grown hg fun k e _ => by cases e; exact .inr (.inl rfl), h.out, h.outc, (hg.block Nr (Array.getElem?_eq_some_iff.1 h.br).1 fun e => h.lz.other h.br (by decide) (by decide) (by decide) (by cases e; exact .inr (.inl rfl))).trans h.br⟩
set_option maxRecDepth 100000 in
theorem SaneQ.del {q : Qm} (h : SaneQ J q) (p : Int × Int) : SaneQ J { q with known := delC q.known p } :=
  ⟨h.ents, fun x hx => h.known x (del_mem.1 hx).1, ris_del h.ris p, h.po, h.cnt, by have := h.len; have := del_len_le q.known p; simp only; omega, h.re⟩
def PpRel (w0 : World) (K T H c m : Nat) (v : Value) (tv : Value) (tb : Option Nat) (J : List Joint) (f : Int × Int → Int) (q : Qm) (Nr kx : Nat) (wr : World) : Prop :=
  ∃ r n H1 c1 v1 A1 hu1 hk1, r.length ≤ kx ∧ PpS w0 K T H c m v tv tb J f q Nr r n H1 c1 v1 A1 hu1 hk1 wr
set_option maxRecDepth 100000 in
set_option maxHeartbeats 4000000 in
theorem lpop_any {g : Nat} {lb : Array Value} {f : Int × Int → Int} {E : World → Prop} {Bk : Nat → Prop} (L : LiveF g lb f E Bk) (h : LzIn w K T H c m v A hu hk tv tb J q) (hE : E w) (hap : ∀ k, mineL K H m v k ∨ k = c → ¬ Bk k) (hpu : q.pu ≤ 80000) :
    Calls Try.prog 14 #[.pointer (some ⟨K, 0, none⟩), .func (.func g) #[] lb] w (LPopRet w K T H c m v tv tb J f q) := by
  obtain ⟨Nr, hNr⟩ : ∃ Nr, w.heap.size = Nr := ⟨_, rfl⟩
  obtain ⟨wa, hwa⟩ : ∃ wa, w.alloc (.cells #[.int .i64 0, .int .i64 0, .int .i64 0] 48) = wa := ⟨_, rfl⟩
  have hga : Grown w wa := by rw [← hwa]; exact (Grown.refl w).alloc _
  have hla := Try.isLive g lb
  have hba : wa.heap[Nr]? = some (.cells #[.int .i64 0, .int .i64 0, .int .i64 0] 48 (0, 0)) := by rw [← hwa, ← hNr]; exact heap_alloc_new w _
  have HL := Lib.hid L; have HH := Lib.hid h; have HAP := Lib.hid hap; have HEE := Lib.hid hE
  have HNR := Lib.hid hNr
  have hst : PpS w K T H c m v tv tb J f q Nr q.ents 0 H c v A hu hk wa :=
    ⟨by simpa using h.grown hga, fun o l k hp => by simpa using hp, Kept.of_below hga.below (Nat.le_refl _), fun k hk1 _ => hk1, fun _ => .inr rfl, hba⟩
  have HST : Hid (PpRel w K T H c m v tv tb J f q Nr q.ents.length wa) := Lib.hid ⟨q.ents, 0, H, c, v, A, hu, hk, Nat.le_refl _, hst⟩
  have hmixed : Try.prog.follows .mixedOrders = true := by kernel_rfl
  clear h hap hE hga hba hst L
  go_enter Try.func14, Try.ntmps14
  go_wp2_with fail
  go_loopg [] q.ents.length (fun kx wr => PpRel w K T H c m v tv tb J f q Nr kx wr)
  case atStart => exact HST.out
  case round =>
    clear HST hwa
    obtain ⟨r, n, H1, c1, v1, A1, hu1, hk1, hrl, hps⟩ := hrel
    have HPS := Lib.hid hps; have HRL := Lib.hid hrl
    have cT := take_any hps.lz (by show q.pu ≤ 90000; omega)
    clear hps hrl
    go_wp2_with fail
    refine cT.mono ?_
    rintro e w2 hr
    rcases hr with ⟨hnil, rfl, hL2⟩ | ⟨x, r', hp, hb, rfl, hL2⟩
    · obtain ⟨H2, c2, v2, A2, hu2, hk2, ht⟩ := HPS.out.took hL2
      obtain rfl : r = [] := hnil
      have ht3 := ht.grown ((Grown.refl w2).alloc (.cells #[.int .i64 0, .int .i64 0, .int .i64 0] 48))
      have hbr3 := ht3.br
      have e0 : (w2.alloc (.cells #[.int .i64 0, .int .i64 0, .int .i64 0] 48)).cell? ⟨Nr, 0, none⟩ = some (.int .i64 0) := by rw [cell_of_row (w2.alloc (.cells #[.int .i64 0, .int .i64 0, .int .i64 0] 48)) Nr _ _ 48 (0, 0) hbr3]; rfl
      have f0 : (w2.alloc (.cells #[.int .i64 0, .int .i64 0, .int .i64 0] 48)).frozen? ⟨Nr, 0, none⟩ = false := Lib.frozen_of_heap hbr3 _
      have e1 : (w2.alloc (.cells #[.int .i64 0, .int .i64 0, .int .i64 0] 48)).cell? ⟨Nr, 1, none⟩ = some (.int .i64 0) := by rw [cell_of_row (w2.alloc (.cells #[.int .i64 0, .int .i64 0, .int .i64 0] 48)) Nr _ _ 48 (0, 0) hbr3]; rfl
      have f1 : (w2.alloc (.cells #[.int .i64 0, .int .i64 0, .int .i64 0] 48)).frozen? ⟨Nr, 1, none⟩ = false := Lib.frozen_of_heap hbr3 _
      have e2 : (w2.alloc (.cells #[.int .i64 0, .int .i64 0, .int .i64 0] 48)).cell? ⟨Nr, 2, none⟩ = some (.int .i64 0) := by rw [cell_of_row (w2.alloc (.cells #[.int .i64 0, .int .i64 0, .int .i64 0] 48)) Nr _ _ 48 (0, 0) hbr3]; rfl
      have f2 : (w2.alloc (.cells #[.int .i64 0, .int .i64 0, .int .i64 0] 48)).frozen? ⟨Nr, 2, none⟩ = false := Lib.frozen_of_heap hbr3 _
      have HT3 := Lib.hid ht3
      have HPO : Hid (LPopRet w K T H c m v tv tb J f q (.returned (.tuple #[.agg #[.int .i64 0, .int .i64 0, .int .i64 0], .bool false])) ((((w2.alloc (.cells #[.int .i64 0, .int .i64 0, .int .i64 0] 48)).setCell ⟨Nr, 0, none⟩ (.int .i64 0)).setCell ⟨Nr, 1, none⟩ (.int .i64 0)).setCell ⟨Nr, 2, none⟩ (.int .i64 0))) := Lib.hid
        ⟨.none, [], 0 + n, HPS.out.pops _ _ _ .none, rfl, by
          have := HT3.out.fin (Nat.le_of_eq HNR.out) (.int .i64 0) (.int .i64 0) (.int .i64 0)
          rw [Nat.zero_add]
          exact this⟩
      clear hL2 ht ht3 hbr3 cT
      unfold itemV
      go_wp2
      have h0 := heap_setCell_at (heap_setCell_at (heap_setCell_at HT3.out.br (i := 0) (.int .i64 0)) (i := 1) (.int .i64 0)) (i := 2) (.int .i64 0)
      have x0 := cell_of_row _ Nr 0 _ 48 (0, 0) h0
      have x1 := cell_of_row _ Nr 1 _ 48 (0, 0) h0
      have x2 := cell_of_row _ Nr 2 _ 48 (0, 0) h0
      refine bodyPost_ret (v := .tuple #[.agg #[.int .i64 0, .int .i64 0, .int .i64 0], .bool false]) (by rw [results_cell_tmp rfl]; simp [go_sem, x0, x1, x2]) rfl ?_
      exact HPO.out
    · obtain ⟨H2, c2, v2, A2, hu2, hk2, ht⟩ := HPS.out.took hL2
      obtain ⟨a, b, d⟩ := x
      obtain ⟨M, hM⟩ : ∃ M, w2.heap.size = M := ⟨_, rfl⟩
      obtain ⟨w3, hw3⟩ : ∃ w3, w2.alloc (.cells #[.int .i64 a, .int .i64 b, .int .i64 d] 48) = w3 := ⟨_, rfl⟩
      have hg23 : Grown w2 w3 := by rw [← hw3]; exact (Grown.refl w2).alloc _
      have hbm : w3.heap[M]? = some (.cells #[.int .i64 a, .int .i64 b, .int .i64 d] 48 (0, 0)) := by rw [← hw3, ← hM]; exact heap_alloc_new w2 _
      have ht3 := ht.grown hg23
      have hE3 : E w3 := HL.out.kept HEE.out ht3.kept fun k hk1 => HAP.out k (.inl hk1)
      have hxr : (a, b, d) ∈ r := hp.mem_iff.2 List.mem_cons_self
      have hfx := (HPS.out.lz.sane.ents (a, b, d) hxr).1
      have hfp : FitsPr (a, b) := ⟨hfx.1, hfx.2.1⟩
      have hMN : M ≠ Nr := fun e => by
        have := (Array.getElem?_eq_some_iff.1 ht.br).1
        omega
      have y0 : w3.cell? ⟨M, 0, none⟩ = some (.int .i64 a) := by rw [cell_of_row w3 M _ _ 48 (0, 0) hbm]; rfl
      have y1 : w3.cell? ⟨M, 1, none⟩ = some (.int .i64 b) := by rw [cell_of_row w3 M _ _ 48 (0, 0) hbm]; rfl
      have y2 : w3.cell? ⟨M, 2, none⟩ = some (.int .i64 d) := by rw [cell_of_row w3 M _ _ 48 (0, 0) hbm]; rfl
      have g0 := cell_grown_at y0
      have g1 := cell_grown_at y1
      have g2 := cell_grown_at y2
      have hcg : ∀ n os, Calls Try.prog g (#[.agg #[.int .i64 a, .int .i64 b]] ++ lb) (grow (w3.drewN n) os) fun e w' => e = .returned (.int .i64 (f (a, b))) ∧ ∃ q os', w' = grow ((grow (w3.drewN n) os).drewN q) os' := fun n os => HL.out.calls a b _ hfp (HL.out.grown hE3 (Grown.of w3 n os))
      have eg := HL.out.enter
      have HT3 := Lib.hid ht3; have HBM := Lib.hid hbm; have HP := Lib.hid hp; have HB := Lib.hid hb; have HFP := Lib.hid hfp
      have HMN := Lib.hid hMN
      clear hL2 ht ht3 hbm cT hE3 hxr hfx hfp hp hb hg23 hMN
      unfold itemV
      by_cases hf : f (a, b) = d
      · have HF := Lib.hid hf
        rw [hf] at hcg
        clear hf
        go_wp2_with fail
        refine wp_region_quiet_grown (by assumption) (by kernel_rfl) ?_
        repeat (first | go_big_quiet_skip | quiet_step (first | (go_at_fn g; refine Calls.grown_of (hcg _ _))))
        refine wpQuiet_nil ?_
        intro _ hw'
        obtain ⟨⟨nq, osq⟩, hw''⟩ := hw'
        subst hw''
        dsimp only
        obtain ⟨wq, hwq⟩ : ∃ wq, grow (w3.drewN nq) osq = wq := ⟨_, rfl⟩
        rw [hwq]
        have hgq : Grown w3 wq := by rw [← hwq]; exact Grown.of w3 nq osq
        have htq := HT3.out.grown hgq
        have hbq := (hgq.below.block M (Array.getElem?_eq_some_iff.1 HBM.out).1).trans HBM.out
        obtain ⟨_, _, d2, _, _, _, _⟩ := htq.lz.cells
        have u0 : wq.cell? ⟨M, 0, none⟩ = some (.int .i64 a) := by rw [cell_of_row wq M _ _ 48 (0, 0) hbq]; rfl
        have u1 : wq.cell? ⟨M, 1, none⟩ = some (.int .i64 b) := by rw [cell_of_row wq M _ _ 48 (0, 0) hbq]; rfl
        have u2 : wq.cell? ⟨M, 2, none⟩ = some (.int .i64 d) := by rw [cell_of_row wq M _ _ 48 (0, 0) hbq]; rfl
        obtain ⟨w4, hrun, hM4, hg4⟩ := drop_c (w := wq.drew) (m := some m) (L := q.known) (htq.lz.map.kept rfl) HFP.out
        unfold pv at hrun
        simp only at hrun
        have hd4 := htq.drew.drop hg4 hM4 (htq.lz.sane.del (a, b))
        have hmM : m ≠ M := fun e => by
          obtain ⟨es, cl, hmb⟩ := htq.lz.map.block
          rw [e, hbq] at hmb; cases hmb
        have hb4 := (hg4.block M (Array.getElem?_eq_some_iff.1 hbq).1 fun e => hmM (by cases e; rfl)).trans hbq
        have hbr4 := hd4.br
        have z0 : w4.cell? ⟨M, 0, none⟩ = some (.int .i64 a) := by rw [cell_of_row w4 M _ _ 48 (0, 0) hb4]; rfl
        have z1 : w4.cell? ⟨M, 1, none⟩ = some (.int .i64 b) := by rw [cell_of_row w4 M _ _ 48 (0, 0) hb4]; rfl
        have z2 : w4.cell? ⟨M, 2, none⟩ = some (.int .i64 d) := by rw [cell_of_row w4 M _ _ 48 (0, 0) hb4]; rfl
        have e0 : w4.cell? ⟨Nr, 0, none⟩ = some (.int .i64 0) := by rw [cell_of_row w4 Nr _ _ 48 (0, 0) hbr4]; rfl
        have f0 : w4.frozen? ⟨Nr, 0, none⟩ = false := Lib.frozen_of_heap hbr4 _
        have e1 : w4.cell? ⟨Nr, 1, none⟩ = some (.int .i64 0) := by rw [cell_of_row w4 Nr _ _ 48 (0, 0) hbr4]; rfl
        have f1 : w4.frozen? ⟨Nr, 1, none⟩ = false := Lib.frozen_of_heap hbr4 _
        have e2 : w4.cell? ⟨Nr, 2, none⟩ = some (.int .i64 0) := by rw [cell_of_row w4 Nr _ _ 48 (0, 0) hbr4]; rfl
        have f2 : w4.frozen? ⟨Nr, 2, none⟩ = false := Lib.frozen_of_heap hbr4 _
        have HPO : Hid (LPopRet w K T H c m v tv tb J f q (.returned (.tuple #[.agg #[.int .i64 a, .int .i64 b, .int .i64 d], .bool true])) (((w4.setCell ⟨Nr, 0, none⟩ (.int .i64 a)).setCell ⟨Nr, 1, none⟩ (.int .i64 b)).setCell ⟨Nr, 2, none⟩ (.int .i64 d))) := Lib.hid
          ⟨.some (a, b, d), r', 1 + n, HPS.out.pops _ _ _ (.hit HP.out HB.out HF.out), rfl, by
            have h1 := hd4.fin (Nat.le_of_eq HNR.out) (.int .i64 a) (.int .i64 b) (.int .i64 d)
            have h2 : q.po + (n : Int) + 1 = q.po + ((1 + n : Nat) : Int) := by omega
            simp only [h2] at h1
            exact h1⟩
        have HBR4 := Lib.hid hbr4
        clear hwq hgq htq hbq hM4 hg4 hd4 hmM hb4 hbr4
        go_wp2_with fail
        go_region
        go_wp2
        have h0 := heap_setCell_at (heap_setCell_at (heap_setCell_at HBR4.out (i := 0) (.int .i64 a)) (i := 1) (.int .i64 b)) (i := 2) (.int .i64 d)
        have x0 := cell_of_row _ Nr 0 _ 48 (0, 0) h0
        have x1 := cell_of_row _ Nr 1 _ 48 (0, 0) h0
        have x2 := cell_of_row _ Nr 2 _ 48 (0, 0) h0
        refine bodyPost_ret (v := .tuple #[.agg #[.int .i64 a, .int .i64 b, .int .i64 d], .bool true]) (by rw [results_cell_tmp rfl]; simp [go_sem, x0, x1, x2]) rfl ?_
        exact HPO.out
      · have HF := Lib.hid hf
        obtain ⟨fv, hfv⟩ : ∃ fv, f (a, b) = fv := ⟨_, rfl⟩
        rw [hfv] at hcg hf
        have hfe : (fv == d) = false := by simp [hf]
        clear hfv
        go_wp2_with fail
        refine wp_region_quiet_grown (by assumption) (by kernel_rfl) ?_
        repeat (first | go_big_quiet_skip | quiet_step (first | (go_at_fn g; refine Calls.grown_of (hcg _ _))))
        refine wpQuiet_nil ?_
        intro _ hw'
        obtain ⟨⟨nq, osq⟩, hw''⟩ := hw'
        subst hw''
        dsimp only
        obtain ⟨wq, hwq⟩ : ∃ wq, grow (w3.drewN nq) osq = wq := ⟨_, rfl⟩
        rw [hwq]
        have hgq : Grown w3 wq := by rw [← hwq]; exact Grown.of w3 nq osq
        have HTQ := Lib.hid (HT3.out.grown hgq)
        clear hwq hgq
        go_wp2
        go_roundg r'.length
        case rel =>
          refine ⟨r', n + 1, H2, c2, v2, A2, hu2, hk2, Nat.le_refl _, ?_, fun o l k hk1 => ?_, HTQ.out.kept, HTQ.out.out, HTQ.out.outc, HTQ.out.br⟩
          · have h1 := HTQ.out.lz
            have h2 : q.po + (n : Int) + 1 = q.po + ((n + 1 : Nat) : Int) := by omega
            simp only [h2] at h1
            exact h1
          · have h1 := HPS.out.pops o l (k + 1) (.miss HP.out HB.out HF.out hk1)
            rw [show k + (n + 1) = k + 1 + n by omega]
            exact h1
        case measure =>
          have h1 := HP.out.length_eq
          have h2 := HRL.out
          rw [List.length_cons] at h1
          omega
end Go.Proofs.Ytbnekkcjkdghcaa
