/- Texts in one: LzTake. -/
import Derived.Test.YtnmacalbbmeedaaGreatQ32
import Derived.Test.YtnmacalbbmeedaaGreatQ33
/- The best entry is taken. -/
namespace Go.Proofs.YtnmacalbbmeedaaGreat
open Go.RowKit Go.Maps Go.Shelf
open Go.Sort (grow grow_empty grow_grow alloc_eq_grow heap_grow_old)
attribute [local go_sem] Oper.semAt_some
variable {w w' : World} {K T H c m : Nat} {v : Value} {A : List Ent} {hu hk : Int} {tv : Value} {tb : Option Nat} {J : List Joint} {q q' : Qm}

set_option maxRecDepth 100000 in
/-- Two results that lie in memory. -/
theorem results_cell2 {fn : Func} {p p2 : Tmp} {ty ty2 : TypeId} (h : fn.results = #[.cell p ty, .cell p2 ty2]) (tmps : Array Value) (P : Program) (w : World) :
    (results fn tmps).run P w = ((asAddr (tmps.getD p undef)).run P w).andThen fun a w₁ => ((loadVar ty a).run P w₁).andThen fun x w₂ => ((asAddr (tmps.getD p2 undef)).run P w₂).andThen fun b w₃ => ((loadVar ty2 b).run P w₃).andThen fun y w₄ => .ok (.tuple #[x, y]) w₄ := by
  simp only [results, h]
  simp [Sem.run_bind, Result.andThen]
  done
set_option maxRecDepth 100000 in
theorem Kept.blink {S : Nat → Prop} {b : Nat} {a W V : World} (h : Kept S a W) (k : Blink b W V) (hb : a.heap.size ≤ b) : Kept S a V :=
  ⟨k.os.trans h.os, k.tape.trans h.tape, k.output.trans h.output, Nat.le_trans h.size k.size, fun i hi hs => (k.low i (by omega) (Nat.lt_of_lt_of_le hi h.size)).trans (h.block i hi hs)⟩
/-- The boxes of take: the queue, the item and whether there is one, and the heap for its iterator. -/
structure TkB (K H Nq Nr Nb N : Nat) (W : World) : Prop where
  bq : W.heap[Nq]? = some (.cells #[.pointer (some ⟨K, 0, none⟩)] 69 (0, 0))
  br : W.heap[Nr]? = some (.cells #[.int .i64 0, .int .i64 0, .int .i64 0] 79 (0, 0))
  bb : W.heap[Nb]? = some (.cells #[.bool false] 4 (0, 0))
  bn : W.heap[N]? = some (.cells #[.pointer (some ⟨H, 0, none⟩)] 108 (0, 0))
set_option maxRecDepth 100000 in
theorem ent_eql_yes (a b n : Int) (w : World) : (binOp .eql 111 (.agg #[.int .i64 a, .int .i64 b, .int .i64 n, .int .i64 a, .int .i64 b, .int .i64 n]) (.agg #[.int .i64 a, .int .i64 b, .int .i64 n, .int .i64 a, .int .i64 b, .int .i64 n])).run Tryz.prog w = .ok (.bool true) w := by
  have u61 := Tryz.underlying111
  have u48 := Tryz.underlying79
  have u41 := Tryz.underlying77
  have u3 := Tryz.underlying3
  simp [go_sem, u61, u48, u41, u3]
/-- What the item's taking leaves. -/
structure TkX (wL : World) (K T H m Nr Nb c : Nat) (v : Value) (hu hk : Int) (J : List Joint) (q : Qm) (i : Item) (t : List Ent) (v' : Value) (A' : List Ent) (V : World) : Prop where
  perm : A'.Perm t
  ord : HeapFrom (entBetter J) A' 0
  heap : Hp V 0 H (ordV c) v' A' hu hk
  own : v'.ownBlock = v.ownBlock
  kept : Kept (fun k => mine H v k ∨ k = K ∨ k = Nr ∨ k = Nb) wL V
  box : V.heap[K]? = some (.cells #[.pointer (some ⟨T, 0, none⟩), .pointer (some ⟨H, 0, none⟩), .map (some m), .int .i64 0, .int .i64 0, .int .i64 q.pu, .int .i64 (q.po + 1), .int .i64 q.pk, .int .i64 q.re] 116 (0, 0))
  br : V.heap[Nr]? = some (.cells #[.int .i64 i.1, .int .i64 i.2.1, .int .i64 i.2.2] 79 (0, 0))
  bb : V.heap[Nb]? = some (.cells #[.bool true] 4 (0, 0))
def TkIx (wL : World) (K T H m Nr Nb c : Nat) (v : Value) (A : List Ent) (hu hk : Int) (J : List Joint) (q : Qm) (V : World) : Prop := ∃ i t v' A', A = entOf i :: t ∧ TkX wL K T H m Nr Nb c v hu hk J q i t v' A' V
set_option maxRecDepth 100000 in
theorem tk_own {wL W : World} {Nq Nr Nb N : Nat} (h : LzIn wL K T H c m v A hu hk tv tb J q) (hb : TkB K H Nq Nr Nb N wL) (hW : Below wL.heap.size wL W) : DOwn 0 H (ordV c) hu hk (entBetter J) (fun W => Env W T tv tb J c) (lzBet T c tv tb) N (v, A) W :=
  ⟨(h.below hW).heap, h.ord, (hW.block N (Array.getElem?_eq_some_iff.1 hb.bn).1).trans hb.bn, (h.below hW).env, h.hap⟩
set_option maxRecDepth 100000 in
theorem TkX.blink {wL V V2 : World} {Nr Nb b : Nat} {i : Item} {t A' : List Ent} {v' : Value} (h : TkX wL K T H m Nr Nb c v hu hk J q i t v' A' V) (k : Blink b V V2) (hb : wL.heap.size ≤ b) : TkX wL K T H m Nr Nb c v hu hk J q i t v' A' V2 :=
  ⟨h.perm, h.ord, h.heap.blink k, h.own, h.kept.blink k hb, box_blink h.box k, box_blink h.br k, box_blink h.bb k⟩
set_option maxRecDepth 100000 in
theorem SaneQ.took {q : Qm} (h : SaneQ J q) {x : Item} {r : List Item} (hp : q.ents.Perm (x :: r)) : SaneQ J { q with ents := r, po := q.po + 1 } := by
  have h1 := hp.length_eq
  have h2 := h.cnt
  rw [List.length_cons] at h1
  exact ⟨fun y hy => h.ents y (hp.mem_iff.2 (List.mem_cons_of_mem _ hy)), h.known, h.ris, by have := h.po; show 0 ≤ q.po + 1; omega, by show q.po + 1 + (r.length : Int) ≤ q.pu; omega, h.len, h.re⟩
set_option maxRecDepth 100000 in
/-- Behind the loop, where one was taken. -/
theorem tk_end {hk0 : Int} {wL W V : World} {Nr Nb : Nat} {i : Item} {t A' : List Ent} {v' : Value} (h : LzIn w K T H c m v A hu hk0 tv tb J q) (hL : LzIn wL K T H c m v A hu hk0 tv tb J q) (hb : Below w.heap.size w wL) (hr : w.heap.size ≤ Nr) (hbb : w.heap.size ≤ Nb) (et : A = entOf i :: t)
    (hx : TkX wL K T H m Nr Nb c v hu hk0 J q i t v' A' W) (hk : Blink wL.heap.size W V) : ∃ r, q.ents.Perm (i :: r) ∧ (∀ y ∈ q.ents, betterOf J y i = false) ∧ LRet w K T H c m v tv tb J { q with ents := r, po := q.po + 1 } V := by
  have hie : i ∈ q.ents := by
    have h1 : entOf i ∈ q.ents.map entOf := h.perm.mem_iff.1 (by rw [et]; exact List.mem_cons_self)
    obtain ⟨j, hj, e⟩ := List.mem_map.1 h1
    rw [← ent_inj e]; exact hj
  have hpe : q.ents.Perm (i :: q.ents.erase i) := List.perm_cons_erase hie
  have hpt : t.Perm ((q.ents.erase i).map entOf) := by
    have h1 := h.perm.trans (hpe.map entOf)
    rw [et, List.map_cons] at h1
    exact h1.cons_inv
  have hmm : ∀ k, mine H v' k → mine H v k := fun k hk1 => by unfold mine at hk1 ⊢; rwa [hx.own] at hk1
  have ltw : ∀ k, mineL K H m v k ∨ lzBet T c tv tb k → k < w.heap.size := h.lt
  obtain ⟨a1, a2, a3, a4⟩ := h.apart
  have hs := hb.size
  have hv := hx.blink hk (Nat.le_refl _)
  have hout : ∀ k, k < w.heap.size → ¬ mine H v k → k ≠ K → ¬ (mine H v k ∨ k = K ∨ k = Nr ∨ k = Nb) := fun k h1 h2 h3 h4 => by
    rcases h4 with h4 | h4 | h4 | h4
    · exact h2 h4
    · exact h3 h4
    · omega
    · omega
  have hE : Env V T tv tb J c := hL.env.kept fun k h1 h2 => hv.kept.block k h1 (hout k (ltw k (.inr h2)) (fun e => h.hap k e h2) fun e => a1 k h2 (.inl e))
  have hM : CMap V m q.known := hL.map.kept (hv.kept.block m hL.map.lt (hout m h.map.lt a3 fun e => a4 e.symm))
  have hLV : LzIn V K T H c m v' A' hu hk0 tv tb J { q with ents := q.ents.erase i, po := q.po + 1 } :=
    ⟨hv.box, hE, hv.heap, hv.ord, hM, hv.perm.trans hpt, h.sane.took hpe, h.hu, h.sep⟩
  refine ⟨q.ents.erase i, hpe, fun y hy => ?_, H, c, v', A', hu, hk0, hLV, ((Kept.of_below (S := mineL K H m v) hb (Nat.le_refl _)).trans hv.kept fun k h1 h2 => ?_), fun k h1 h2 => ?_⟩
  · have h1 := heap_best (entBetter_ranks J) h.ord (by rw [et]; simp) (entOf y) (h.perm.mem_iff.2 (List.mem_map_of_mem hy))
    simp only [et, List.getElem_cons_zero] at h1
    exact h1
  · rcases h2 with h2 | h2 | h2 | h2
    · exact .inr (.inr h2)
    · exact .inl h2
    · omega
    · omega
  · rcases h1 with (h1 | h1 | h1) | h1
    · exact .inl (.inl h1)
    · exact .inl (.inr (.inl h1))
    · exact .inl (.inr (.inr (hmm k h1)))
    · exact .inr h1
set_option maxRecDepth 100000 in
/-- Behind the loop, where there was none. -/
theorem tk_none {hk0 : Int} {wL W : World} {Nr Nb : Nat} (h : LzIn w K T H c m v [] hu hk0 tv tb J q) (hL : LzIn wL K T H c m v [] hu hk0 tv tb J q) (hb : Below w.heap.size w wL) (hr : w.heap.size ≤ Nr) (hbb : w.heap.size ≤ Nb)
    (hp : Hp W 0 H (ordV c) v [] hu hk0) (hkp : Kept (fun k => mine H v k ∨ k = Nr ∨ k = Nb) wL W) : q.ents = [] ∧ LRet w K T H c m v tv tb J q W := by
  obtain ⟨a1, a2, a3, a4⟩ := h.apart
  have ltw : ∀ k, mineL K H m v k ∨ lzBet T c tv tb k → k < w.heap.size := h.lt
  have he : q.ents = [] := by
    have := h.perm.length_eq
    rw [List.length_map] at this
    exact List.eq_nil_of_length_eq_zero this.symm
  have hout : ∀ k, k < w.heap.size → ¬ mine H v k → ¬ (mine H v k ∨ k = Nr ∨ k = Nb) := fun k h1 h2 h4 => by
    rcases h4 with h4 | h4 | h4
    · exact h2 h4
    · omega
    · omega
  have hE : Env W T tv tb J c := hL.env.kept fun k h1 h2 => hkp.block k h1 (hout k (ltw k (.inr h2)) fun e => h.hap k e h2)
  have hM : CMap W m q.known := hL.map.kept (hkp.block m hL.map.lt (hout m h.map.lt a3))
  refine ⟨he, H, c, v, [], hu, hk0, ⟨(hkp.block K hL.ltK (hout K h.ltK a2)).trans hL.box, hE, hp, h.ord, hM, h.perm, h.sane, h.hu, h.sep⟩, ((Kept.of_below (S := mineL K H m v) hb (Nat.le_refl _)).trans hkp fun k h1 h2 => ?_), fun k h1 _ => h1⟩
  rcases h2 with h2 | h2 | h2
  · exact .inr (.inr h2)
  · omega
  · omega
/-- Behind take. -/
def TakeRet (w : World) (K T H c m : Nat) (v : Value) (tv : Value) (tb : Option Nat) (J : List Joint) (q : Qm) (e : Ending) (w' : World) : Prop :=
  (q.ents = [] ∧ e = .returned (.tuple #[itemV (0, 0, 0), .bool false]) ∧ LRet w K T H c m v tv tb J q w') ∨
  ∃ x r, q.ents.Perm (x :: r) ∧ (∀ y ∈ q.ents, betterOf J y x = false) ∧ e = .returned (.tuple #[itemV x, .bool true]) ∧ LRet w K T H c m v tv tb J { q with ents := r, po := q.po + 1 } w'
set_option maxRecDepth 100000 in
set_option maxHeartbeats 4000000 in
theorem take_any (h : LzIn w K T H c m v A hu hk tv tb J q) (hpu : q.pu ≤ 90000) : Calls Tryz.prog 54 #[.pointer (some ⟨K, 0, none⟩)] w (TakeRet w K T H c m v tv tb J q) := by
  obtain ⟨Nq, hNq⟩ : ∃ Nq, w.heap.size = Nq := ⟨_, rfl⟩
  obtain ⟨w1, hw1⟩ : ∃ w1, w.alloc (.cells #[.pointer (some ⟨K, 0, none⟩)] 69) = w1 := ⟨_, rfl⟩
  obtain ⟨w2, hw2⟩ : ∃ w2, w1.alloc (.cells #[.int .i64 0, .int .i64 0, .int .i64 0] 79) = w2 := ⟨_, rfl⟩
  obtain ⟨w3, hw3⟩ : ∃ w3, w2.alloc (.cells #[.bool false] 4) = w3 := ⟨_, rfl⟩
  obtain ⟨wL, hwL⟩ : ∃ wL, w3.alloc (.cells #[.pointer (some ⟨H, 0, none⟩)] 108) = wL := ⟨_, rfl⟩
  have z1 : w1.heap.size = Nq + 1 := by rw [← hw1, World.size_alloc, hNq]
  have z2 : w2.heap.size = Nq + 2 := by rw [← hw2, World.size_alloc, z1]
  have z3 : w3.heap.size = Nq + 3 := by rw [← hw3, World.size_alloc, z2]
  have zL : wL.heap.size = Nq + 4 := by rw [← hwL, World.size_alloc, z3]
  have b1 : Below w.heap.size w w1 := by rw [← hw1]; exact (Below.refl _ w).alloc (Nat.le_refl _) _
  have b2 : Below w1.heap.size w1 w2 := by rw [← hw2]; exact (Below.refl _ w1).alloc (Nat.le_refl _) _
  have b3 : Below w2.heap.size w2 w3 := by rw [← hw3]; exact (Below.refl _ w2).alloc (Nat.le_refl _) _
  have bL : Below w3.heap.size w3 wL := by rw [← hwL]; exact (Below.refl _ w3).alloc (Nat.le_refl _) _
  have b3L := b3.trans (bL.mono (by omega))
  have b2L := b2.trans (b3L.mono (by omega))
  have hBX : TkB K H Nq (Nq + 1) (Nq + 2) (Nq + 3) wL :=
    ⟨(b2L.block Nq (by omega)).trans (by rw [← hw1, ← hNq]; exact heap_alloc_new w _), (b3L.block (Nq + 1) (by omega)).trans (by rw [← hw2, ← z1]; exact heap_alloc_new w1 _), (bL.block (Nq + 2) (by omega)).trans (by rw [← hw3, ← z2]; exact heap_alloc_new w2 _), by rw [← hwL, ← z3]; exact heap_alloc_new w3 _⟩
  have HBX := Lib.hid hBX
  have HBW : Hid (Below w.heap.size w wL) := Lib.hid (b1.trans (b2L.mono (by omega)))
  have h3 := h.below (b1.trans ((b2.trans (b3.mono (by omega))).mono (by omega)))
  obtain ⟨_, c1, _, _, _, _, _⟩ := h3.cells
  have hb23 : w3.heap[Nq]? = some (.cells #[.pointer (some ⟨K, 0, none⟩)] 69 (0, 0)) := ((b2.trans (b3.mono (by omega))).block Nq (by omega)).trans (by rw [← hw1, ← hNq]; exact heap_alloc_new w _)
  have q0 : w3.cell? ⟨Nq, 0, none⟩ = some (.pointer (some ⟨K, 0, none⟩)) := by rw [cell_of_row w3 Nq 0 _ 69 (0, 0) hb23]; rfl
  have HLL := Lib.hid (h.below HBW.out)
  have HH := Lib.hid h
  have cD := drain_any H w3
  rw [z3, hwL] at cD
  unfold seqV at cD
  have HZ := Lib.hid (And.intro zL hNq)
  have hsq := Tryz.isSeq
  clear b1 b2 b3 bL b3L b2L hBX h3 hb23 h zL hwL
  refine (callsIn_wide (n := 8)).1 ?_
  refine callsIn_of_wp_marks Tryz.func54 rfl trivial ?_ rfl
  simp only [Tryz.ntmps54, List.size_toArray, List.length_cons, List.length_nil, Nat.reduceAdd, Nat.reduceSub, Array.replicate_succ, Array.replicate_zero, List.push_toArray, List.append_toArray, List.nil_append, List.cons_append]
  gi_wp2_with fail
  refine ⟨trivial, (callsIn_wide.2 cD).mono ?_⟩
  rintro e w5 ⟨rfl, rfl⟩
  clear cD
  gi_wp2_with fail
  refine wpIn_range_hand (σ := Value × List Ent) (α := Ent) (encs := fun x => #[entV x]) rfl (by omega) (gf := 99) (lb := #[.pointer (some ⟨Nq + 3, 0, none⟩)]) rfl trivial (enters_of Tryz.func99 (by kernel_rfl) rfl)
    (drain_hand (B := 0) (K := H) (pu := hu) (pk := hk) (lz_bet T tv tb J c) (Nq + 3) 7 (by omega)) (fun _ => rfl) (fun s W V ho hf => Kept.others hf ho.1.blocks)
    (fun s W => s = (v, A) ∧ Below w5.heap.size w5 W)
    (fun cc W => cc = .ret ∧ TkIx w5 K T H m (Nq + 1) (Nq + 2) c v A hu hk J q W)
    (fun W => A = [] ∧ Kept (mine H v) w5 W ∧ Hp W 0 H (ordV c) v [] hu hk) (v, A)
    (fun s W h => by obtain ⟨rfl, h⟩ := h; exact tk_own HLL.out HBX.out h) (fun s W V h k => ⟨h.1, h.2.trans (k.below (Nat.le_refl _) h.2.size)⟩)
    (fun cc W V h k => by obtain ⟨h1, i, t, v', A', h2, h3⟩ := h; exact ⟨h1, i, t, v', A', h2, h3.blink k (Nat.le_refl _)⟩)
    (fun W V h k => ⟨h.1, h.2.1.blink k (Nat.le_refl _), h.2.2.blink k⟩)
    ⟨rfl, Below.refl _ _⟩
    (fun s W V h hf ho hfr => by
      obtain ⟨rfl, h⟩ := h
      have e : A = [] := hf
      subst e
      exact ⟨rfl, (Kept.of_below (S := mine H v) h (Nat.le_refl _)).trans hfr fun _ _ h => h, ho.1⟩) ?round ?done ?stop
  case round =>
    rintro l s x ⟨v', A'⟩ W V ⟨rfl, hW⟩ hn ho hf
    obtain ⟨t, et, hpt, hob⟩ := hn
    simp only at et hpt hob
    have hxf := HLL.out.heap.fits x (by rw [et]; exact List.mem_cons_self)
    have hxi := fits_form hxf
    obtain ⟨i, hi⟩ : ∃ i, itemOf x = i := ⟨_, rfl⟩
    rw [hi] at hxi
    subst hxi
    have hie : i ∈ q.ents := by
      have h1 : entOf i ∈ q.ents.map entOf := HLL.out.perm.mem_iff.1 (by rw [et]; exact List.mem_cons_self)
      obtain ⟨j, hj, e⟩ := List.mem_map.1 h1
      rw [← ent_inj e]; exact hj
    obtain ⟨f1, f2, f3, f4⟩ := HLL.out.sane.ents i hie
    obtain ⟨M, hM⟩ : ∃ M, V.heap.size = M := ⟨_, rfl⟩
    obtain ⟨a, b, n⟩ := i
    have hKV : Kept (mine H v) w5 V := (Kept.of_below (S := mine H v) hW (Nat.le_refl _)).trans hf fun _ _ h => h
    have HKV := Lib.hid hKV; have HO := Lib.hid ho; have HET := Lib.hid et; have HPT := Lib.hid hpt; have HOB := Lib.hid hob
    have HFI := Lib.hid (And.intro f1 (And.intro f2 f3))
    clear hKV ho et hpt hob hW hf hxf hie hi f1 f2 f3 f4
    unfold entV
    gi_wp2
    refine ⟨KeepsOthers.alloc _ _, fun V2 hb2 => ?_⟩
    have hbx := box_blink (BoxI.new V a b n a b n).heap hb2
    rw [hM] at hbx
    have hK2 : Kept (mine H v) w5 V2 := (HKV.out.alloc _).blink hb2 (Nat.le_refl _)
    have hP2 : Hp V2 0 H (ordV c) v' A' hu hk := (HO.out.1.kept fun k hk1 _ => Below.heap_alloc _ _ _ hk1).blink hb2
    have hNm : ∀ k, Nq ≤ k → ¬ mine H v k := fun k hk1 hk2 => by
      have := HH.out.lt k (.inl (.inr (.inr hk2)))
      have := HZ.out.2
      omega
    have hz5 := HZ.out.1
    have hKlt : K < Nq := by rw [← HZ.out.2]; exact HH.out.ltK
    have hbK2 := (hK2.block K (by omega) HLL.out.apart.2.1).trans HLL.out.box
    have hE2 : Env V2 T tv tb J c := HLL.out.env.kept fun k h1 h2 => hK2.block k h1 fun e => HLL.out.hap k e h2
    have htee : LzT V2 K T tv tb J := ⟨by rw [cell_of_row V2 K _ _ 116 (0, 0) hbK2]; rfl, hE2.tab, hE2.few⟩
    have cP := place_any (a, b, n) htee HFI.out.1
    rw [place_there (x := (a, b, n)) HFI.out.2.1 HFI.out.2.2] at cP
    unfold itemV entV entOf at cP
    simp only at cP
    have hbq2 := (hK2.block Nq (by omega) (hNm Nq (by omega))).trans HBX.out.bq
    have hbr2 := (hK2.block (Nq + 1) (by omega) (hNm (Nq + 1) (by omega))).trans HBX.out.br
    have hbb2 := (hK2.block (Nq + 2) (by omega) (hNm (Nq + 2) (by omega))).trans HBX.out.bb
    have q2 : V2.cell? ⟨Nq, 0, none⟩ = some (.pointer (some ⟨K, 0, none⟩)) := by rw [cell_of_row V2 Nq 0 _ 69 (0, 0) hbq2]; rfl
    have m0 : V2.cell? ⟨M, 0, none⟩ = some (.int .i64 a) := by rw [cell_of_row V2 M _ _ 111 (0, 0) hbx]; rfl
    have m1 : V2.cell? ⟨M, 1, none⟩ = some (.int .i64 b) := by rw [cell_of_row V2 M _ _ 111 (0, 0) hbx]; rfl
    have m2 : V2.cell? ⟨M, 2, none⟩ = some (.int .i64 n) := by rw [cell_of_row V2 M _ _ 111 (0, 0) hbx]; rfl
    have HX2 := Lib.hid (And.intro hbx (And.intro hbK2 (And.intro hbq2 (And.intro hbr2 hbb2))))
    have HK2 := Lib.hid hK2; have HP2 := Lib.hid hP2; have HNM := Lib.hid hNm
    clear hb2 hbx hK2 hP2 hNm hbK2 hE2 htee hbq2 hbr2 hbb2
    gi_wp2_with fail
    refine ⟨trivial, (CallsIn.inRound l (callsIn_wide.2 cP)).mono ?_⟩
    rintro e V3 ⟨rfl, hg3⟩
    clear cP
    obtain ⟨V4, hV4⟩ : ∃ V4, V3.alloc (.cells #[.int .i64 a, .int .i64 b, .int .i64 n, .int .i64 a, .int .i64 b, .int .i64 n] 111) = V4 := ⟨_, rfl⟩
    have hg4 : Grown V2 V4 := by rw [← hV4]; exact hg3.alloc _
    have hb5 : V4.heap[V3.heap.size]? = some (.cells #[.int .i64 a, .int .i64 b, .int .i64 n, .int .i64 a, .int .i64 b, .int .i64 n] 111 (0, 0)) := by rw [← hV4]; exact heap_alloc_new V3 _
    obtain ⟨M5, hM5⟩ : ∃ M5, V3.heap.size = M5 := ⟨_, rfl⟩
    rw [hM5] at hb5
    obtain ⟨x1, x2, x3, x4, x5⟩ := HX2.out
    have lt : ∀ {k : Nat} {cs : Array Value} {ty : TypeId} {fr : Nat × Nat}, V2.heap[k]? = some (.cells cs ty fr) → V4.heap[k]? = some (.cells cs ty fr) := fun {k cs ty fr} h => (hg4.below.block k (Array.getElem?_eq_some_iff.1 h).1).trans h
    have y1 := lt x1
    have y2 := lt x2
    have y3 := lt x3
    have y4 := lt x4
    have y5 := lt x5
    have q4 : V4.cell? ⟨Nq, 0, none⟩ = some (.pointer (some ⟨K, 0, none⟩)) := by rw [cell_of_row V4 Nq 0 _ 69 (0, 0) y3]; rfl
    have r0 : V4.cell? ⟨M, 0, none⟩ = some (.int .i64 a) := by rw [cell_of_row V4 M _ _ 111 (0, 0) y1]; rfl
    have s0 : V4.cell? ⟨M5, 0, none⟩ = some (.int .i64 a) := by rw [cell_of_row V4 M5 _ _ 111 (0, 0) hb5]; rfl
    have r1 : V4.cell? ⟨M, 1, none⟩ = some (.int .i64 b) := by rw [cell_of_row V4 M _ _ 111 (0, 0) y1]; rfl
    have s1 : V4.cell? ⟨M5, 1, none⟩ = some (.int .i64 b) := by rw [cell_of_row V4 M5 _ _ 111 (0, 0) hb5]; rfl
    have r2 : V4.cell? ⟨M, 2, none⟩ = some (.int .i64 n) := by rw [cell_of_row V4 M _ _ 111 (0, 0) y1]; rfl
    have s2 : V4.cell? ⟨M5, 2, none⟩ = some (.int .i64 n) := by rw [cell_of_row V4 M5 _ _ 111 (0, 0) hb5]; rfl
    have r3 : V4.cell? ⟨M, 3, none⟩ = some (.int .i64 a) := by rw [cell_of_row V4 M _ _ 111 (0, 0) y1]; rfl
    have s3 : V4.cell? ⟨M5, 3, none⟩ = some (.int .i64 a) := by rw [cell_of_row V4 M5 _ _ 111 (0, 0) hb5]; rfl
    have r4 : V4.cell? ⟨M, 4, none⟩ = some (.int .i64 b) := by rw [cell_of_row V4 M _ _ 111 (0, 0) y1]; rfl
    have s4 : V4.cell? ⟨M5, 4, none⟩ = some (.int .i64 b) := by rw [cell_of_row V4 M5 _ _ 111 (0, 0) hb5]; rfl
    have r5 : V4.cell? ⟨M, 5, none⟩ = some (.int .i64 n) := by rw [cell_of_row V4 M _ _ 111 (0, 0) y1]; rfl
    have s5 : V4.cell? ⟨M5, 5, none⟩ = some (.int .i64 n) := by rw [cell_of_row V4 M5 _ _ 111 (0, 0) hb5]; rfl
    have k6 : V4.cell? ⟨K, 6, none⟩ = some (.int .i64 q.po) := by rw [cell_of_row V4 K _ _ 116 (0, 0) y2]; rfl
    have k7 : V4.frozen? ⟨K, 6, none⟩ = false := Lib.frozen_of_heap y2 _
    have heq := ent_eql_yes a b n
    have hpo : IntKind.i64.wrap (q.po + 1) = q.po + 1 := IntWalk.i64_in _ (by have h1 := HLL.out.sane.po; have h2 := HLL.out.sane.cnt; omega)
    obtain ⟨V5, hV5⟩ : ∃ V5, V4.setCell ⟨K, 6, none⟩ (.int .i64 (q.po + 1)) = V5 := ⟨_, rfl⟩
    have hKM : K ≠ M := fun e => by rw [e, y1] at y2; cases y2
    have hKN : ∀ k, Nq ≤ k → k ≠ K := fun k h e => by omega
    have b5 := heap_setCell_at y2 (i := 6) (.int .i64 (q.po + 1))
    rw [hV5] at b5
    have k5 : ∀ k, k ≠ K → V5.heap[k]? = V4.heap[k]? := fun k hk1 => by rw [← hV5, Below.heap_setCell _ ⟨K, 6, none⟩ _ k hk1]
    have u1 := (k5 M fun e => hKM e.symm).trans y1
    have u4 := (k5 (Nq + 1) (hKN _ (by omega))).trans y4
    have u5 := (k5 (Nq + 2) (hKN _ (by omega))).trans y5
    have t0 : V5.cell? ⟨M, 0, none⟩ = some (.int .i64 a) := by rw [cell_of_row V5 M _ _ 111 (0, 0) u1]; rfl
    have vc0 : V5.cell? ⟨Nq + 1, 0, none⟩ = some (.int .i64 0) := by rw [cell_of_row V5 (Nq + 1) _ _ 79 (0, 0) u4]; rfl
    have wf0 : V5.frozen? ⟨Nq + 1, 0, none⟩ = false := Lib.frozen_of_heap u4 _
    have t1 : V5.cell? ⟨M, 1, none⟩ = some (.int .i64 b) := by rw [cell_of_row V5 M _ _ 111 (0, 0) u1]; rfl
    have vc1 : V5.cell? ⟨Nq + 1, 1, none⟩ = some (.int .i64 0) := by rw [cell_of_row V5 (Nq + 1) _ _ 79 (0, 0) u4]; rfl
    have wf1 : V5.frozen? ⟨Nq + 1, 1, none⟩ = false := Lib.frozen_of_heap u4 _
    have t2 : V5.cell? ⟨M, 2, none⟩ = some (.int .i64 n) := by rw [cell_of_row V5 M _ _ 111 (0, 0) u1]; rfl
    have vc2 : V5.cell? ⟨Nq + 1, 2, none⟩ = some (.int .i64 0) := by rw [cell_of_row V5 (Nq + 1) _ _ 79 (0, 0) u4]; rfl
    have wf2 : V5.frozen? ⟨Nq + 1, 2, none⟩ = false := Lib.frozen_of_heap u4 _
    obtain ⟨V6, hV6⟩ : ∃ V6, ((V5.setCell ⟨Nq + 1, 0, none⟩ (.int .i64 a)).setCell ⟨Nq + 1, 1, none⟩ (.int .i64 b)).setCell ⟨Nq + 1, 2, none⟩ (.int .i64 n) = V6 := ⟨_, rfl⟩
    have b6 := heap_setCell_at (heap_setCell_at (heap_setCell_at u4 (i := 0) (.int .i64 a)) (i := 1) (.int .i64 b)) (i := 2) (.int .i64 n)
    rw [hV6] at b6
    have k66 : ∀ k, k ≠ Nq + 1 → V6.heap[k]? = V5.heap[k]? := fun k hk1 => by rw [← hV6, Below.heap_setCell _ ⟨Nq + 1, 2, none⟩ _ k hk1, Below.heap_setCell _ ⟨Nq + 1, 1, none⟩ _ k hk1, Below.heap_setCell _ ⟨Nq + 1, 0, none⟩ _ k hk1]
    have a5 := (k66 (Nq + 2) (by omega)).trans u5
    have p0 : V6.cell? ⟨Nq + 2, 0, none⟩ = some (.bool false) := by rw [cell_of_row V6 (Nq + 2) _ _ 4 (0, 0) a5]; rfl
    have p1 : V6.frozen? ⟨Nq + 2, 0, none⟩ = false := Lib.frozen_of_heap a5 _
    obtain ⟨V7, hV7⟩ : ∃ V7, V6.setCell ⟨Nq + 2, 0, none⟩ (.bool true) = V7 := ⟨_, rfl⟩
    have b7 := heap_setCell_at a5 (i := 0) (.bool true)
    rw [hV7] at b7
    have k77 : ∀ k, k ≠ Nq + 2 → V7.heap[k]? = V6.heap[k]? := fun k hk1 => by rw [← hV7, Below.heap_setCell _ ⟨Nq + 2, 0, none⟩ _ k hk1]
    have hkp4 : Kept (fun k => mine H v k ∨ k = K ∨ k = Nq + 1 ∨ k = Nq + 2) w5 V4 := ((Kept.refl (fun k => mine H v k ∨ k = K ∨ k = Nq + 1 ∨ k = Nq + 2) w5).trans HK2.out fun _ _ h => .inl h).trans (Kept.of_below (S := fun k => mine H v k ∨ k = K ∨ k = Nq + 1 ∨ k = Nq + 2) hg4.below (Nat.le_refl _)) fun _ _ h => h
    have hkp7 : Kept (fun k => mine H v k ∨ k = K ∨ k = Nq + 1 ∨ k = Nq + 2) w5 V7 := by
      rw [← hV7, ← hV6, ← hV5]
      exact ((((hkp4.setCell ⟨K, 6, none⟩ _ fun _ => .inr (.inl rfl)).setCell ⟨Nq + 1, 0, none⟩ _ fun _ => .inr (.inr (.inl rfl))).setCell ⟨Nq + 1, 1, none⟩ _ fun _ => .inr (.inr (.inl rfl))).setCell ⟨Nq + 1, 2, none⟩ _ fun _ => .inr (.inr (.inl rfl))).setCell ⟨Nq + 2, 0, none⟩ _ fun _ => .inr (.inr (.inr rfl))
    have hmm : ∀ k, mine H v' k → mine H v k := fun k hk1 => by unfold mine at hk1 ⊢; rwa [HOB.out] at hk1
    have hP7 : Hp V7 0 H (ordV c) v' A' hu hk := (HP2.out.grown hg4).kept fun k _ hk2 => by
      have h1 := hmm k hk2
      have h2 : k ≠ K := fun e => HLL.out.apart.2.1 (e ▸ h1)
      have h3 : k ≠ Nq + 1 := fun e => HNM.out (Nq + 1) (by omega) (e ▸ h1)
      have h4 : k ≠ Nq + 2 := fun e => HNM.out (Nq + 2) (by omega) (e ▸ h1)
      rw [k77 k h4, k66 k h3, k5 k h2]
    have HX7 : Hid (TkX w5 K T H m (Nq + 1) (Nq + 2) c v hu hk J q (a, b, n) t v' A' V7) := Lib.hid
      ⟨HPT.out, HO.out.2.1, hP7, HOB.out, hkp7, (k77 K (by omega)).trans ((k66 K (by omega)).trans b5), (k77 (Nq + 1) (by omega)).trans b6, b7⟩
    have HKO : Hid (KeepsOthers V2 V7) := Lib.hid (by
      have h1 : KeepsOthers V2 V4 := Kept.others (Kept.of_below (S := fun _ => False) hg4.below (Nat.le_refl _)) fun _ h => h.elim
      rw [← hV7, ← hV6, ← hV5]
      exact ((((h1.trans (KeepsOthers.setCell _ _ _)).trans (KeepsOthers.setCell _ _ _)).trans (KeepsOthers.setCell _ _ _)).trans (KeepsOthers.setCell _ _ _)).trans (KeepsOthers.setCell _ _ _))
    clear x1 x2 x3 x4 x5 lt y1 y2 y3 y4 y5 hb5 hg3 hg4 b5 k5 u1 u4 u5 b6 k66 a5 b7 k77 hkp4 hkp7 hmm hP7 hKM hKN hKlt hz5
    gi_wp2
    exact ⟨HKO.out, rfl, (a, b, n), t, v', A', HET.out, HX7.out⟩
  case done =>
    rintro D W ⟨rfl, hkW, hpW⟩ hD hDl
    have hNm : ∀ k, Nq ≤ k → ¬ mine H v k := fun k hk1 hk2 => by
      have := HH.out.lt k (.inl (.inr (.inr hk2)))
      have := HZ.out.2
      omega
    have hz5 := HZ.out.1
    have hbr := (hkW.block (Nq + 1) (by omega) (hNm (Nq + 1) (by omega))).trans HBX.out.br
    have hbb := (hkW.block (Nq + 2) (by omega) (hNm (Nq + 2) (by omega))).trans HBX.out.bb
    have e0 : W.cell? ⟨Nq + 1, 0, none⟩ = some (.int .i64 0) := by rw [cell_of_row W (Nq + 1) _ _ 79 (0, 0) hbr]; rfl
    have e1 : W.cell? ⟨Nq + 1, 1, none⟩ = some (.int .i64 0) := by rw [cell_of_row W (Nq + 1) _ _ 79 (0, 0) hbr]; rfl
    have e2 : W.cell? ⟨Nq + 1, 2, none⟩ = some (.int .i64 0) := by rw [cell_of_row W (Nq + 1) _ _ 79 (0, 0) hbr]; rfl
    have f0 : W.frozen? ⟨Nq + 1, 0, none⟩ = false := Lib.frozen_of_heap hbr _
    have f1 : W.frozen? ⟨Nq + 1, 1, none⟩ = false := Lib.frozen_of_heap hbr _
    have f2 : W.frozen? ⟨Nq + 1, 2, none⟩ = false := Lib.frozen_of_heap hbr _
    obtain ⟨W6, hW6⟩ : ∃ W6, ((W.setCell ⟨Nq + 1, 0, none⟩ (.int .i64 0)).setCell ⟨Nq + 1, 1, none⟩ (.int .i64 0)).setCell ⟨Nq + 1, 2, none⟩ (.int .i64 0) = W6 := ⟨_, rfl⟩
    have b6 := heap_setCell_at (heap_setCell_at (heap_setCell_at hbr (i := 0) (.int .i64 0)) (i := 1) (.int .i64 0)) (i := 2) (.int .i64 0)
    rw [hW6] at b6
    have k66 : ∀ k, k ≠ Nq + 1 → W6.heap[k]? = W.heap[k]? := fun k hk1 => by rw [← hW6, Below.heap_setCell _ ⟨Nq + 1, 2, none⟩ _ k hk1, Below.heap_setCell _ ⟨Nq + 1, 1, none⟩ _ k hk1, Below.heap_setCell _ ⟨Nq + 1, 0, none⟩ _ k hk1]
    have a5 := (k66 (Nq + 2) (by omega)).trans hbb
    have p0 : W6.cell? ⟨Nq + 2, 0, none⟩ = some (.bool false) := by rw [cell_of_row W6 (Nq + 2) _ _ 4 (0, 0) a5]; rfl
    have p1 : W6.frozen? ⟨Nq + 2, 0, none⟩ = false := Lib.frozen_of_heap a5 _
    obtain ⟨W7, hW7⟩ : ∃ W7, W6.setCell ⟨Nq + 2, 0, none⟩ (.bool false) = W7 := ⟨_, rfl⟩
    have b7 := heap_setCell_at a5 (i := 0) (.bool false)
    rw [hW7] at b7
    have k77 : ∀ k, k ≠ Nq + 2 → W7.heap[k]? = W6.heap[k]? := fun k hk1 => by rw [← hW7, Below.heap_setCell _ ⟨Nq + 2, 0, none⟩ _ k hk1]
    have hDne : D ≠ Nq + 1 ∧ D ≠ Nq + 2 := ⟨(fun e => by rw [e, hbr] at hD; cases hD), (fun e => by rw [e, hbb] at hD; cases hD)⟩
    have hD7 : W7.heap[D]? = some (.deferred (some [])) := (k77 D hDne.2).trans ((k66 D hDne.1).trans hD)
    have hk7 : Kept (fun k => mine H v k ∨ k = Nq + 1 ∨ k = Nq + 2) w5 W7 := by
      have h0 : Kept (fun k => mine H v k ∨ k = Nq + 1 ∨ k = Nq + 2) w5 W := (Kept.refl (fun k => mine H v k ∨ k = Nq + 1 ∨ k = Nq + 2) w5).trans hkW fun _ _ h => .inl h
      rw [← hW7, ← hW6]
      exact (((h0.setCell ⟨Nq + 1, 0, none⟩ _ fun _ => .inr (.inl rfl)).setCell ⟨Nq + 1, 1, none⟩ _ fun _ => .inr (.inl rfl)).setCell ⟨Nq + 1, 2, none⟩ _ fun _ => .inr (.inl rfl)).setCell ⟨Nq + 2, 0, none⟩ _ fun _ => .inr (.inr rfl)
    have hp7 : Hp W7 0 H (ordV c) v [] hu hk := hpW.kept fun k _ hk2 => by
      have h3 : k ≠ Nq + 1 := fun e => hNm (Nq + 1) (by omega) (e ▸ hk2)
      have h4 : k ≠ Nq + 2 := fun e => hNm (Nq + 2) (by omega) (e ▸ hk2)
      rw [k77 k h4, k66 k h3]
    have hbl := Blink.putObj (B := w5.heap.size) (.deferred none) hDl hD7 rfl
    have hfin := tk_none (Nr := Nq + 1) (Nb := Nq + 2) HH.out HLL.out HBW.out (by rw [HZ.out.2]; omega) (by rw [HZ.out.2]; omega) (hp7.blink hbl) (hk7.blink hbl (Nat.le_refl _))
    have HF := Lib.hid hfin; have HD7 := Lib.hid hD7
    have HB6 := Lib.hid ((k77 (Nq + 1) (by omega)).trans b6); have HB7 := Lib.hid b7
    have HDN := Lib.hid hDne
    clear hkW hpW hD hDl hNm hz5 hbr hbb b6 k66 a5 b7 k77 hD7 hk7 hp7 hbl hfin hDne
    gi_wp2
    refine ⟨by simp, .inl ⟨_, _, rfl, run_takeDeferred HD7.out, ?_⟩⟩
    have g1 := (World.putObj_heap_other (w := W7) (o := .deferred none) (Ne.symm HDN.out.1)).trans HB6.out
    have g2 := (World.putObj_heap_other (w := W7) (o := .deferred none) (Ne.symm HDN.out.2)).trans HB7.out
    have x0 := cell_of_row _ (Nq + 1) 0 _ 79 (0, 0) g1
    have x1 := cell_of_row _ (Nq + 1) 1 _ 79 (0, 0) g1
    have x2 := cell_of_row _ (Nq + 1) 2 _ 79 (0, 0) g1
    have x3 := cell_of_row _ (Nq + 2) 0 _ 4 (0, 0) g2
    refine ⟨.tuple #[itemV (0, 0, 0), .bool false], (by rw [results_cell2 rfl]; simp [go_sem, itemV, x0, x1, x2, x3]), ?_⟩
    exact .inl ⟨HF.out.1, rfl, HF.out.2⟩
  case stop =>
    rintro D cc W ⟨rfl, i, t, v', A', et, hx⟩ hD hDl
    have hbl := Blink.putObj (B := w5.heap.size) (.deferred none) hDl hD rfl
    have hfin := tk_end HH.out HLL.out HBW.out (by rw [HZ.out.2]; omega) (by rw [HZ.out.2]; omega) et hx hbl
    have HF := Lib.hid hfin
    have hv := hx.blink hbl (Nat.le_refl _)
    have x0 := cell_of_row _ (Nq + 1) 0 _ 79 (0, 0) hv.br
    have x1 := cell_of_row _ (Nq + 1) 1 _ 79 (0, 0) hv.br
    have x2 := cell_of_row _ (Nq + 1) 2 _ 79 (0, 0) hv.br
    have x3 := cell_of_row _ (Nq + 2) 0 _ 4 (0, 0) hv.bb
    clear hfin
    gi_wp2
    refine ⟨by simp, .inl ⟨_, _, rfl, run_takeDeferred hD, ?_⟩⟩
    refine ⟨.tuple #[itemV i, .bool true], (by rw [results_cell2 rfl]; simp [go_sem, itemV, x0, x1, x2, x3]), ?_⟩
    obtain ⟨r, h1, h2, h3⟩ := HF.out
    exact .inr ⟨i, r, h1, h2, rfl, h3⟩
end Go.Proofs.YtnmacalbbmeedaaGreat
