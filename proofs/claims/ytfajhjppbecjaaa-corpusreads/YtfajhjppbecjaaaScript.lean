/- What a script tells; a script in memory; the contract of source.New. -/
import Derived.Test.YtfajhjppbecjaaaMem
namespace Go.Proofs.Ytfajhjppbecjaaa
open Go.RowKit

/-! Plain lists: what a script tells. -/
/-- The texts that aren't empty. -/
def full (L : List (List UInt8)) : List (List UInt8) := L.filter fun l => !l.isEmpty
theorem full_nil : full [] = [] := rfl
theorem full_next (L : List (List UInt8)) {k : Nat} (h : k < L.length) (hne : L[k] ≠ []) : full (L.take (k + 1)) = full (L.take k) ++ [L[k]] := by
  unfold full; rw [List.take_succ_eq_append_getElem h, List.filter_append]; simp [hne]
theorem full_skip (L : List (List UInt8)) {k : Nat} (h : k < L.length) (he : L[k] = []) : full (L.take (k + 1)) = full (L.take k) := by
  unfold full; rw [List.take_succ_eq_append_getElem h, List.filter_append, he]; simp
theorem full_len (L : List (List UInt8)) : (full L).length ≤ L.length := List.length_filter_le _ _
theorem full_flat (L : List (List UInt8)) : (full L).flatten = L.flatten := by
  induction L with
  | nil => rfl
  | cons a r ih =>
    unfold full at ih ⊢
    cases a with
    | nil => simpa using ih
    | cons b t => simp [ih]
theorem full_ne (L : List (List UInt8)) : ∀ l ∈ full L, l ≠ [] := by
  intro l hl
  unfold full at hl
  have := (List.mem_filter.1 hl).2
  intro e; subst e; simp at this
/-- The pieces ahead of the failure, and the failure's number. -/
def ahead (P : List (List UInt8)) (f : Int) : List (List UInt8) := if 0 ≤ f ∧ f ≤ (P.length : Int) then P.take f.toNat else P
def failing (P : List (List UInt8)) (f : Int) : Nat := if 0 ≤ f ∧ f ≤ (P.length : Int) then 3 else 0
theorem ahead_len (P : List (List UInt8)) (f : Int) : (ahead P f).length ≤ P.length := by
  unfold ahead; split
  · rw [List.length_take]; omega
  · exact Nat.le_refl _
theorem ahead_flat (P : List (List UInt8)) (f : Int) : (ahead P f).flatten.length ≤ P.flatten.length := by
  unfold ahead; split
  · exact flat_le P _
  · exact Nat.le_refl _
/-! A script in memory. -/
def Scr (w : World) (base K : Nat) (v : Value) (sz e : Nat) (L : List (List UInt8)) : Prop :=
  base ≤ K ∧ w.heap[K]? = some (.cells #[v, .int .i64 (sz : Int), .int .i64 (e : Int)] 50 (0, 0)) ∧ strsAt w v L ∧ (∀ a n c, v = .slice a n c → n ≤ c) ∧
    ∀ a n c, v = .slice (some a) n c → base ≤ a.block ∧ a.block < w.heap.size ∧ a.block ≠ K
def mineS (K : Nat) (v : Value) (k : Nat) : Prop := k = K ∨ ∃ a n c, v = .slice (some a) n c ∧ a.block = k
theorem Scr.lt {w : World} {base K sz e : Nat} {v : Value} {L : List (List UInt8)} (h : Scr w base K v sz e L) : K < w.heap.size := (Array.getElem?_eq_some_iff.1 h.2.1).1
theorem Scr.mine_lt {w : World} {base K sz e : Nat} {v : Value} {L : List (List UInt8)} (h : Scr w base K v sz e L) : ∀ k, mineS K v k → k < w.heap.size := by
  rintro k (rfl | ⟨a, n, c, hv, rfl⟩)
  · exact h.lt
  · exact (h.2.2.2.2 a n c hv).2.1
theorem Scr.mine_ge {w : World} {base K sz e : Nat} {v : Value} {L : List (List UInt8)} (h : Scr w base K v sz e L) : ∀ k, mineS K v k → base ≤ k := by
  rintro k (rfl | ⟨a, n, c, hv, rfl⟩)
  · exact h.1
  · exact (h.2.2.2.2 a n c hv).1
theorem Scr.kept {w w' : World} {base K sz e : Nat} {v : Value} {L : List (List UInt8)} (h : Scr w base K v sz e L) (hs : w.heap.size ≤ w'.heap.size) (hk : ∀ k, mineS K v k → w'.heap[k]? = w.heap[k]?) : Scr w' base K v sz e L := by
  obtain ⟨hb, hK, hr, hc, ha⟩ := h
  exact ⟨hb, by rw [hk K (.inl rfl)]; exact hK, hr.kept fun a n c hv => hk _ (.inr ⟨a, n, c, hv, rfl⟩), hc, fun a n c hv => ⟨(ha a n c hv).1, Nat.lt_of_lt_of_le (ha a n c hv).2.1 hs, (ha a n c hv).2.2⟩⟩
theorem Scr.mono {w : World} {base base' K sz e : Nat} {v : Value} {L : List (List UInt8)} (h : Scr w base K v sz e L) (hb : base' ≤ base) : Scr w base' K v sz e L :=
  ⟨Nat.le_trans hb h.1, h.2.1, h.2.2.1, h.2.2.2.1, fun a n c hv => ⟨Nat.le_trans hb (h.2.2.2.2 a n c hv).1, (h.2.2.2.2 a n c hv).2⟩⟩
theorem Scr.below {w w' : World} {base B K sz e : Nat} {v : Value} {L : List (List UInt8)} (h : Scr w base K v sz e L) (hb : Below B w w') (hB : w.heap.size ≤ B) : Scr w' base K v sz e L :=
  h.kept hb.size fun k hk => hb.block k (Nat.lt_of_lt_of_le (h.mine_lt k hk) hB)
theorem Scr.cells {w : World} {base K sz e : Nat} {v : Value} {L : List (List UInt8)} (h : Scr w base K v sz e L) :
    w.cell? ⟨K, 0, none⟩ = some v ∧ w.cell? ⟨K, 1, none⟩ = some (.int .i64 (sz : Int)) ∧ w.cell? ⟨K, 2, none⟩ = some (.int .i64 (e : Int)) ∧ w.frozen? ⟨K, 0, none⟩ = false := by
  have hK := h.2.1
  refine ⟨?_, ?_, ?_, Lib.frozen_of_heap hK 0⟩ <;> (rw [Lib.cell_of_heap hK]; rfl)
theorem scr_of_own {w : World} {base K sz e : Nat} {v : Value} {L : List (List UInt8)} (hb : base ≤ K) (hK : w.heap[K]? = some (.cells #[v, .int .i64 (sz : Int), .int .i64 (e : Int)] 50 (0, 0))) (ho : ownS w base v L) : Scr w base K v sz e L := by
  refine ⟨hb, hK, ho.reads, ?_, ?_⟩
  · intro a n c hv
    obtain ⟨a', c', hv', hl⟩ := ho.form3
    rw [hv] at hv'; cases hv'; exact hl
  · intro a n c hv
    have hob : v.ownBlock = some a.block := by
      rcases ho.form with ⟨h0, _⟩ | ⟨g, cap, hg, _⟩
      · rw [h0] at hv; cases hv
      · rw [hg] at hv; cases hv; rw [hg]; rfl
    obtain ⟨h1, h2⟩ := ho.lt _ hob
    refine ⟨h1, h2, fun e => ?_⟩
    obtain ⟨cs, hcs⟩ := ho.block _ hob
    rw [e, hK] at hcs; cases hcs
/-! New. -/
def NewRel (w : World) (Q : List (List UInt8)) (e : Nat) (i : Value) (wr : World) : Prop :=
  ∃ (k : Nat) (v : Value), k ≤ Q.length ∧ i = .int .i64 (k : Int) ∧ Below w.heap.size w wr ∧
    wr.heap[w.heap.size]? = some (.cells #[v, .int .i64 ((Q.take k).flatten.length : Int), .int .i64 (e : Int)] 50 (0, 0)) ∧ ownS wr w.heap.size v (full (Q.take k))
theorem newRel_start (w : World) (Q : List (List UInt8)) (e : Nat) : NewRel w Q e (.int .i64 0) (w.alloc (.cells #[.slice none 0 0, .int .i64 0, .int .i64 (e : Int)] 50)) :=
  ⟨0, .slice none 0 0, Nat.zero_le _, rfl, (Below.refl _ _).alloc (Nat.le_refl _) _, heap_alloc_new w _, World.ownsRow_nil _ _ _ _⟩
theorem newRel_skip {w wr : World} {Q : List (List UInt8)} {e k : Nat} {v : Value} (hlt : k < Q.length) (he : Q[k] = []) (hb : Below w.heap.size w wr)
    (hK : wr.heap[w.heap.size]? = some (.cells #[v, .int .i64 ((Q.take k).flatten.length : Int), .int .i64 (e : Int)] 50 (0, 0))) (ho : ownS wr w.heap.size v (full (Q.take k))) : NewRel w Q e (.int .i64 ((k : Int) + 1)) wr := by
  refine ⟨k + 1, v, hlt, by simp, hb, ?_, ?_⟩
  · rw [flat_next Q hlt, he, List.append_nil]; exact hK
  · rw [full_skip Q hlt he]; exact ho
theorem newRel_more {w wr w2 : World} {Q : List (List UInt8)} {e k : Nat} {v v2 : Value} {m : Int} (hlt : k < Q.length) (hne : Q[k] ≠ []) (hb : Below w.heap.size w wr)
    (hK : wr.heap[w.heap.size]? = some (.cells #[v, .int .i64 ((Q.take k).flatten.length : Int), .int .i64 (e : Int)] 50 (0, 0))) (ho : ownS wr w.heap.size v (full (Q.take k)))
    (hgr : wr.grownBy w2 v.ownBlock) (hown : ownS w2 w.heap.size v2 (full (Q.take k) ++ [Q[k]])) (hm : m = ((Q.take k).flatten.length : Int) + (Q[k].length : Int)) :
    NewRel w Q e (.int .i64 ((k : Int) + 1)) ((w2.setCell ⟨w.heap.size, 0, none⟩ v2).setCell ⟨w.heap.size, 1, none⟩ (.int .i64 m)) := by
  have hKlt : w.heap.size < wr.heap.size := (Array.getElem?_eq_some_iff.1 hK).1
  have hne1 : some w.heap.size ≠ v.ownBlock := by
    intro e; obtain ⟨cs, hc⟩ := ho.block _ e.symm; rw [hK] at hc; cases hc
  have hK2 := (hgr.block _ hKlt hne1).trans hK
  have hne2 : ∀ g, v2.ownBlock = some g → g ≠ w.heap.size := by
    intro g hg e; obtain ⟨cs, hc⟩ := hown.block _ hg; rw [e, hK2] at hc; cases hc
  refine ⟨k + 1, v2, hlt, by simp, ?_, ?_, ?_⟩
  · exact ((hb.grown hgr hb.size (fun g hg => (ho.lt g hg).1)).setCell (p := ⟨w.heap.size, 0, none⟩) (Nat.le_refl _) _).setCell (p := ⟨w.heap.size, 1, none⟩) (Nat.le_refl _) _
  · rw [heap_setCell_at (heap_setCell_at hK2 _), flat_next Q hlt, List.length_append, hm]; simp
  · rw [full_next Q hlt hne]
    exact (hown.kept fun g hg => Below.heap_setCell _ _ _ _ (hne2 g hg)).kept fun g hg => Below.heap_setCell _ _ _ _ (hne2 g hg)
set_option maxHeartbeats 1000000 in
theorem srcNew_any (x : Value) (f : Int) (P : List (List UInt8)) (w : World) (hx : strsAt w x P) (hcap : ∀ a n c, x = .slice a n c → n ≤ c) (hn : P.length ≤ 1048576) (hs : P.flatten.length ≤ 1048576) :
    Calls Try.prog 10 #[x, .int .i64 f] w fun e w' => e = .returned (.pointer (some ⟨w.heap.size, 0, none⟩)) ∧
      (∃ v, Scr w' w.heap.size w.heap.size v (ahead P f).flatten.length (failing P f) (full (ahead P f))) ∧ Below w.heap.size w w' := by
  obtain ⟨j0, hj, hy0, hy1, hy2⟩ := info_parts Try.info9
  have HX := Lib.hid hx
  obtain ⟨aP, cP, rfl, hrP⟩ := hx
  clear hrP
  have hcP := hcap _ _ _ rfl
  clear hcap
  have hl1 := ahead_len P f
  have hl2 := ahead_flat P f
  obtain ⟨Q, hQ⟩ : ∃ Q, Q = ahead P f := ⟨_, rfl⟩
  obtain ⟨e, he⟩ : ∃ e, e = failing P f := ⟨_, rfl⟩
  rw [← hQ] at hl1 hl2 ⊢
  rw [← he]
  have hcase : (0 ≤ f ∧ f ≤ (P.length : Int) ∧ Q = P.take f.toNat ∧ e = 3) ∨ (0 ≤ f ∧ ¬ f ≤ (P.length : Int) ∧ Q = P ∧ e = 0) ∨ (¬ 0 ≤ f ∧ Q = P ∧ e = 0) := by
    unfold ahead at hQ; unfold failing at he
    by_cases h0 : 0 ≤ f <;> by_cases h1 : f ≤ (P.length : Int) <;> simp [h0, h1] at hQ he ⊢ <;> simp [hQ, he]
  clear hQ he
  have hlq : Q.length ≤ 1048576 := by omega
  have hfq : Q.flatten.length ≤ 1048576 := by omega
  clear hl1 hl2
  rcases hcase with ⟨h0, h1, hq, he⟩ | ⟨h0, h1, hq, he⟩ | ⟨h0, hq, he⟩
  case' inl =>
    obtain ⟨vQ, hsl, hvQ⟩ := slice_head aP P.length cP f.toNat f (by omega) (by omega)
    have hQ1 := hvQ w P HX.out (by omega)
    rw [← hq] at hQ1
    have HQ := Lib.hid hQ1
    obtain ⟨aQ, cQ, rfl, hrQ⟩ := hQ1
    clear hrQ
    have HE := Lib.hid he
    clear hq hvQ he
    go_enter Try.func10, Try.ntmps10
    go_wp2
    go_loopw [26] (fun i wr => NewRel w Q e i wr) (fun i _ => Q.length - (intOf i).toNat)
    case' atStart => rw [HE.out]
    case atStart => exact newRel_start w Q 3
    clear HE
  case' inr.inl =>
    have hQ1 : strsAt w (.slice aP P.length cP) Q := by rw [hq]; exact HX.out
    have HQ := Lib.hid hQ1
    have HE := Lib.hid he
    obtain ⟨aQ, cQ, e', hrQ⟩ := hQ1
    clear hrQ
    subst hq
    cases e'
    clear he
    go_enter Try.func10, Try.ntmps10
    go_wp2
    go_loopw [26] (fun i wr => NewRel w Q e i wr) (fun i _ => Q.length - (intOf i).toNat)
    case' atStart => rw [HE.out]
    case atStart => exact newRel_start w Q 0
    clear HE
  case' inr.inr =>
    have hQ1 : strsAt w (.slice aP P.length cP) Q := by rw [hq]; exact HX.out
    have HQ := Lib.hid hQ1
    have HE := Lib.hid he
    obtain ⟨aQ, cQ, e', hrQ⟩ := hQ1
    clear hrQ
    subst hq
    cases e'
    clear he
    go_enter Try.func10, Try.ntmps10
    go_wp2
    go_loopw [26] (fun i wr => NewRel w Q e i wr) (fun i _ => Q.length - (intOf i).toNat)
    case' atStart => rw [HE.out]
    case atStart => exact newRel_start w Q 0
    clear HE
  all_goals
    obtain ⟨k, v, hk, rfl, hbel, hK, hown⟩ := hrel
    have HK := Lib.hid hK
    have HO := Lib.hid hown
    by_cases hlt : k < Q.length
    · obtain ⟨aR, cR, eR, hcR⟩ := HQ.out.below_in hbel (Nat.le_refl _)
      cases eR
      obtain ⟨ad, rfl, hcell⟩ := hcR k hlt
      clear hcR
      unfold tx at hcell
      by_cases hem : Q[k] = []
      · have HM := Lib.hid hem
        rw [hem] at hcell
        clear hem hK hown
        go_wp2
        go_roundw
        case rel => exact newRel_skip hlt HM.out hbel HK.out HO.out
        case measure => simp [intOf]; omega
      · have HM := Lib.hid hem
        have hf1 := flat_le Q (k + 1)
        have hf2 := congrArg List.length (flat_next Q hlt)
        rw [List.length_append] at hf2
        have hfl := full_len (Q.take k)
        rw [List.length_take] at hfl
        obtain ⟨x, hx⟩ : ∃ x : ByteArray, x = ⟨Q[k].toArray⟩ := ⟨_, rfl⟩
        have hxs : x.size = Q[k].length := by rw [hx]; exact List.size_toArray
        have hxb : x.toList.isEmpty = false := some_text (by rw [hx]; exact hem)
        obtain ⟨n, hnn⟩ : ∃ n, n = (Q.take k).flatten.length := ⟨_, rfl⟩
        have hnx : n + x.size ≤ 1048576 := by omega
        have hcells := HK.out
        rw [← hnn] at hcells
        have c0 : wr.cell? ⟨w.heap.size, 0, none⟩ = some v := by rw [Lib.cell_of_heap hcells]; rfl
        have c1 : wr.cell? ⟨w.heap.size, 1, none⟩ = some (.int .i64 (n : Int)) := by rw [Lib.cell_of_heap hcells]; rfl
        have hKlt : w.heap.size < wr.heap.size := (Array.getElem?_eq_some_iff.1 hcells).1
        have hne1 : some w.heap.size ≠ v.ownBlock := by
          intro e; obtain ⟨cs, hc⟩ := HO.out.block _ e.symm; rw [hcells] at hc; cases hc
        obtain ⟨a1, cap1, hv1⟩ := HO.out.form2
        have hownb : wr.ownsRow w.heap.size 9 1 v (full (Q.take k)).length (scells (full (Q.take k))) := HO.out
        subst hv1
        rw [← hx] at hcell
        have HX2 := Lib.hid hx
        have HN := Lib.hid hnn
        have HXS := Lib.hid hxs
        have hfl2 : (full (Q.take k)).length ≤ 1048576 := by omega
        clear hem hK hown hx hnn hxs hf1 hf2 hfl
        go_wp2_with (at_builtin; refine wpList_append_lies _ rfl (.tmp 36) (.tmp 38) 22 rfl w.heap.size 9 j0 (.string ⟨#[]⟩) 1 16 Try.underlying22 hj hy0 hy1 hy2 rfl (by decide) _ _ (scells (full (Q.take k))) rfl (World.ownsRow.alloc hownb _) _ 1 1 [.string x] rfl rfl (cell_one_new _ _ _) (by intro u hu; simp at hu; subst hu; rfl) (by decide) (by unfold maxLen; omega) (by omega) (Nat.le_trans (Nat.le_of_lt hKlt) (by simp)) _ rfl ?_; intro g3 cap3 w2 hown3 hgr3 hat3 hlt3; have hgr4 := grown_alloc (n := 0) hgr3; have hK2 := hgr4.block w.heap.size hKlt hne1; have d0 : w2.cell? ⟨w.heap.size, 0, none⟩ = some (.slice a1 (full (Q.take k)).length cap1) := (World.cell?_of_block (a := ⟨w.heap.size, 0, none⟩) hK2).trans c0; have d1 : w2.cell? ⟨w.heap.size, 1, none⟩ = some (.int .i64 (n : Int)) := (World.cell?_of_block (a := ⟨w.heap.size, 1, none⟩) hK2).trans c1; have f0 : w2.frozen? ⟨w.heap.size, 0, none⟩ = false := Lib.frozen_of_heap (hK2.trans hcells) 0; have f1 : w2.frozen? ⟨w.heap.size, 1, none⟩ = false := Lib.frozen_of_heap (hK2.trans hcells) 1; clear hgr3 hK2)
        go_roundw
        case rel => exact newRel_more hlt HM.out hbel HK.out HO.out hgr4 (ownS.app (B := [Q[k]]) (by rw [HX2.out] at hown3; exact hown3) rfl) (by rw [← HN.out, ← HXS.out])
        case measure => simp [intOf]; omega
    · go_wp2
      go_ret
      have hkl : Q.take k = Q := List.take_of_length_le (by omega)
      rw [hkl] at HK HO
      exact ⟨rfl, ⟨v, scr_of_own (Nat.le_refl _) HK.out HO.out⟩, hbel⟩
theorem srcNew_as (x : Value) (f : Int) (P : List (List UInt8)) (w : World) (sz e : Nat) (W : List (List UInt8)) (h1 : (ahead P f).flatten.length = sz) (h2 : failing P f = e) (h3 : full (ahead P f) = W) (hx : strsAt w x P) (hcap : ∀ a n c, x = .slice a n c → n ≤ c) (hn : P.length ≤ 1048576) (hs : P.flatten.length ≤ 1048576) :
    Calls Try.prog 10 #[x, .int .i64 f] w fun r w' => r = .returned (.pointer (some ⟨w.heap.size, 0, none⟩)) ∧ (∃ v, Scr w' w.heap.size w.heap.size v sz e W) ∧ Below w.heap.size w w' := by
  subst h1; subst h2; subst h3
  exact srcNew_any x f P w hx hcap hn hs
end Go.Proofs.Ytfajhjppbecjaaa
