/- Texts in one: TrP, TrQ. -/
import Derived.Test.YtnmacalbbmeedaaGreatQ10
import Derived.Test.YtnmacalbbmeedaaGreatQ22
import Derived.Test.YtnmacalbbmeedaaGreatQ24
import Derived.Test.YtnmacalbbmeedaaGreatQ05
/- Symbols and texts: what is counted, and merged, by symbols is what is counted, and merged, by texts. -/
namespace Go.Proofs.YtnmacalbbmeedaaGreat

/-- A word as texts; a pair of symbols as a merge. -/
def txW (J : List Joint) (X : List Int) : List ByteArray := X.map (txtOf J)
def ThereW (J : List Joint) (X : List Int) : Prop := ∀ y ∈ X, thereOf J y = true
def mgOf (J : List Joint) (p : Int × Int) : Mg := (txtOf J p.1, txtOf J p.2)
def ThereP (J : List Joint) (p : Int × Int) : Prop := thereOf J p.1 = true ∧ thereOf J p.2 = true
def txWs (J : List Joint) (ws : List Wd) : List (List ByteArray) := ws.map fun x => txW J x.1
def ctWs (ws : List Wd) : List Int := ws.map (·.2)
variable {J : List Joint} {p q : Int × Int}
set_option maxRecDepth 100000 in
theorem tx_eq (hg : Good J) (hp : ThereP J p) {x y : Int} (hx : thereOf J x = true) (hy : thereOf J y = true) : (txtOf J x = (mgOf J p).1 ∧ txtOf J y = (mgOf J p).2) ↔ (x, y) = p :=
  ⟨fun h => Prod.ext (txt_inj hg hx hp.1 h.1) (txt_inj hg hy hp.2 h.2), fun h => by rw [← h]; exact ⟨rfl, rfl⟩⟩
set_option maxRecDepth 100000 in
theorem tx_cnt (hg : Good J) (hp : ThereP J p) : ∀ {X : List Int}, ThereW J X → (cntT (mgOf J p) (txW J X) : Int) = cntP X p
  | [], _ => rfl
  | [_], _ => rfl
  | x :: y :: r, h => by
    have hx := h x List.mem_cons_self
    have hy := h y (List.mem_cons_of_mem _ List.mem_cons_self)
    have ih := tx_cnt hg hp (X := y :: r) fun z hz => h z (List.mem_cons_of_mem _ hz)
    have e := tx_eq hg hp hx hy
    show ((cntT (mgOf J p) (txtOf J x :: txtOf J y :: txW J r) : Nat) : Int) = _
    have e2 : cntT (mgOf J p) (txtOf J x :: txtOf J y :: txW J r) = (if txtOf J x = (mgOf J p).1 ∧ txtOf J y = (mgOf J p).2 then 1 else 0) + cntT (mgOf J p) (txW J (y :: r)) := rfl
    rw [e2, cntP, Int.natCast_add, ih]
    by_cases h1 : (x, y) = p
    · rw [if_pos h1, if_pos (e.2 h1)]; rfl
    · rw [if_neg h1, if_neg fun k => h1 (e.1 k)]; rfl
set_option maxRecDepth 100000 in
/-- What stands in a word as texts is a pair of its symbols. -/
theorem tx_in {m : Mg} : ∀ {X : List Int}, ThereW J X → 1 ≤ cntT m (txW J X) → ∃ p, m = mgOf J p ∧ ThereP J p
  | [], _, h => by simp [txW, cntT] at h
  | [_], _, h => by simp [txW, cntT] at h
  | x :: y :: r, ht, h => by
    have e2 : cntT m (txW J (x :: y :: r)) = (if txtOf J x = m.1 ∧ txtOf J y = m.2 then 1 else 0) + cntT m (txW J (y :: r)) := rfl
    rw [e2] at h
    by_cases h1 : txtOf J x = m.1 ∧ txtOf J y = m.2
    · exact ⟨(x, y), Prod.ext h1.1.symm h1.2.symm, ht x List.mem_cons_self, ht y (List.mem_cons_of_mem _ List.mem_cons_self)⟩
    · rw [if_neg h1] at h
      exact tx_in (X := y :: r) (fun z hz => ht z (List.mem_cons_of_mem _ hz)) (by omega)
/-- The words that a learner has: each symbol is there, and each word is there. -/
def GoodW (J : List Joint) (ws : List Wd) : Prop := ∀ x ∈ ws, ThereW J x.1 ∧ 1 ≤ x.2
set_option maxRecDepth 100000 in
theorem tx_tot (hg : Good J) (hp : ThereP J p) : ∀ {ws : List Wd}, GoodW J ws → cntW (mgOf J p) (txWs J ws) (ctWs ws) = totW ws p
  | [], _ => rfl
  | x :: r, h => by
    have ih := tx_tot hg hp (ws := r) fun z hz => h z (List.mem_cons_of_mem _ hz)
    have hx := h x List.mem_cons_self
    have e1 : cntW (mgOf J p) (txWs J (x :: r)) (ctWs (x :: r)) = (if 1 ≤ x.2 then (cntT (mgOf J p) (txW J x.1) : Int) * x.2 else 0) + cntW (mgOf J p) (txWs J r) (ctWs r) := rfl
    have e2 : totW (x :: r) p = x.2 * cntP x.1 p + totW r p := rfl
    rw [e1, e2, ih, if_pos hx.2, tx_cnt hg hp hx.1, Int.mul_comm]
set_option maxRecDepth 100000 in
theorem tx_some {m : Mg} {ws : List Wd} (h : GoodW J ws) (hc : 1 ≤ cntW m (txWs J ws) (ctWs ws)) : ∃ p, m = mgOf J p ∧ ThereP J p := by
  obtain ⟨w, hw, h1⟩ := cnt_some hc
  obtain ⟨x, hx, rfl⟩ := List.mem_map.1 hw
  exact tx_in (h x hx).1 h1
/-! A merge. -/
/-- The table behind a join. -/
def moreJ (J : List Joint) (p : Int × Int) : List Joint := J ++ [(txtOf J p.1 ++ txtOf J p.2, p.1, p.2)]
def newS (J : List Joint) : Int := ((256 + J.length : Nat) : Int)
set_option maxRecDepth 100000 in
theorem new_there : thereOf (moreJ J p) (newS J) = true := there_iff.2 ⟨by unfold newS; omega, by unfold newS moreJ; rw [texts_len, List.length_append, List.length_singleton]; omega⟩
set_option maxRecDepth 100000 in
theorem new_txt : txtOf (moreJ J p) (newS J) = txtOf J p.1 ++ txtOf J p.2 := by
  obtain ⟨h0, h1⟩ := there_iff.1 (new_there (J := J) (p := p))
  rw [txt_there h0 h1]
  unfold moreJ at h1 ⊢
  have hl : (textsOf J).length = (newS J).toNat := by unfold newS; rw [texts_len]; omega
  simp only [texts_more]
  rw [List.getElem_append_right (by omega)]
  simp [hl]
set_option maxRecDepth 100000 in
theorem there_more {y : Int} (h : thereOf J y = true) : thereOf (moreJ J p) y = true := by
  obtain ⟨h0, h1⟩ := there_iff.1 h
  exact there_iff.2 ⟨h0, by unfold moreJ; rw [texts_more, List.length_append]; omega⟩
set_option maxRecDepth 100000 in
theorem tx_merge (hg : Good J) (hp : ThereP J p) : ∀ {X : List Int}, ThereW J X → txW (moreJ J p) (mergeL p (newS J) X) = joinT (mgOf J p) (txW J X)
  | [], _ => rfl
  | [x], h => by
    show [txtOf (moreJ J p) x] = [txtOf J x]
    unfold moreJ
    rw [txt_more (h x List.mem_cons_self)]
  | x :: y :: r, h => by
    have hx := h x List.mem_cons_self
    have hy := h y (List.mem_cons_of_mem _ List.mem_cons_self)
    have e := tx_eq hg hp hx hy
    have e2 : joinT (mgOf J p) (txW J (x :: y :: r)) = if txtOf J x = (mgOf J p).1 ∧ txtOf J y = (mgOf J p).2 then ((mgOf J p).1 ++ (mgOf J p).2) :: joinT (mgOf J p) (txW J r) else txtOf J x :: joinT (mgOf J p) (txW J (y :: r)) := by
      show joinT (mgOf J p) (txtOf J x :: txtOf J y :: txW J r) = _
      rw [joinT]
      rfl
    rw [e2, mergeL]
    by_cases h1 : (x, y) = p
    · have h2 : x = p.1 ∧ y = p.2 := by rw [← h1]; exact ⟨rfl, rfl⟩
      rw [if_pos h2, if_pos (e.2 h1), ← tx_merge hg hp (X := r) fun z hz => h z (List.mem_cons_of_mem _ (List.mem_cons_of_mem _ hz))]
      show txtOf (moreJ J p) (newS J) :: _ = _
      rw [new_txt]
      rfl
    · have h2 : ¬ (x = p.1 ∧ y = p.2) := fun k => h1 (Prod.ext k.1 k.2)
      rw [if_neg h2, if_neg fun k => h1 (e.1 k), ← tx_merge hg hp (X := y :: r) fun z hz => h z (List.mem_cons_of_mem _ hz)]
      show txtOf (moreJ J p) x :: _ = _
      unfold moreJ
      rw [txt_more hx]
      rfl
set_option maxRecDepth 100000 in
theorem there_merge {X : List Int} (h : ThereW J X) : ThereW (moreJ J p) (mergeL p (newS J) X) := fun y hy => by
  rcases mergeL_mem hy with hy | rfl
  · exact there_more (h y hy)
  · exact new_there
set_option maxRecDepth 100000 in
theorem good_merge {ws : List Wd} (h : GoodW J ws) : GoodW (moreJ J p) (mergeWs p (newS J) ws) := fun x hx => by
  obtain ⟨y, hy, rfl⟩ := List.mem_map.1 hx
  exact ⟨there_merge (h y hy).1, (h y hy).2⟩
set_option maxRecDepth 100000 in
theorem txs_merge (hg : Good J) (hp : ThereP J p) {ws : List Wd} (h : GoodW J ws) : txWs (moreJ J p) (mergeWs p (newS J) ws) = (txWs J ws).map (joinT (mgOf J p)) := by
  unfold txWs mergeWs
  rw [List.map_map, List.map_map]
  exact List.map_congr_left fun x hx => tx_merge hg hp (h x hx).1
set_option maxRecDepth 100000 in
theorem cts_merge (s : Int) (ws : List Wd) : ctWs (mergeWs p s ws) = ctWs ws := by
  unfold ctWs mergeWs
  rw [List.map_map]
  rfl
/-! The beginning. -/
set_option maxRecDepth 100000 in
theorem there_byte (b : UInt8) : thereOf [] (b.toNat : Int) = true := there_iff.2 ⟨by omega, by rw [texts_len]; have := b.toNat_lt; simp; omega⟩
set_option maxRecDepth 100000 in
theorem txt_byte (b : UInt8) : txtOf [] (b.toNat : Int) = ⟨#[b]⟩ := by
  obtain ⟨h0, h1⟩ := there_iff.1 (there_byte b)
  rw [txt_there h0 h1]
  have hb := b.toNat_lt
  have e : (textsOf [])[(b.toNat : Int).toNat] = oneB b.toNat := texts_low (J := []) (c := (b.toNat : Int).toNat) (by omega) h1
  refine e.trans ?_
  unfold oneB
  rw [UInt8.ofNat_toNat]
set_option maxRecDepth 100000 in
theorem tx_start (L : Bag) : txWs [] (wsOf L) = startW L := by
  unfold txWs wsOf startW
  rw [List.map_map]
  refine List.map_congr_left fun x _ => ?_
  show (syms x.1).map (txtOf []) = bytesT x.1
  unfold syms bytesT
  rw [List.map_map]
  exact List.map_congr_left fun b _ => txt_byte b
set_option maxRecDepth 100000 in
theorem ct_start (L : Bag) : ctWs (wsOf L) = countsOf L := by
  unfold ctWs wsOf countsOf
  rw [List.map_map]
  rfl
set_option maxRecDepth 100000 in
theorem good_start {L : Bag} (h : ∀ p ∈ L, 1 ≤ p.2) : GoodW [] (wsOf L) := fun x hx => by
  obtain ⟨y, hy, rfl⟩ := List.mem_map.1 hx
  refine ⟨fun z hz => ?_, h y hy⟩
  obtain ⟨b, _, rfl⟩ := List.mem_map.1 hz
  exact there_byte b
end Go.Proofs.YtnmacalbbmeedaaGreat
/- A learner's queue, plain: what it knows of counts; the best that it tells; how often is pushed. -/
namespace Go.Proofs.YtnmacalbbmeedaaGreat

/-- What is put of a count: nothing of one that is less than the least. -/
def capT (d : Int) (t : Int × Int → Int) : Int × Int → Int := fun r => if t r < d then 0 else t r
set_option maxRecDepth 100000 in
theorem cap_some {d : Int} {t : Int × Int → Int} {r : Int × Int} (h : 1 ≤ capT d t r) : capT d t r = t r ∧ d ≤ t r ∧ 1 ≤ t r := by
  unfold capT at h ⊢
  split at h
  · omega
  · rename_i k; rw [if_neg k]; exact ⟨rfl, by omega, h⟩
set_option maxRecDepth 100000 in
theorem cap_of {d : Int} {t : Int × Int → Int} {r : Int × Int} (h : d ≤ t r) : capT d t r = t r := if_neg (by omega)
set_option maxRecDepth 100000 in
theorem cap_le {d B : Int} {t : Int × Int → Int} {r : Int × Int} (h : t r ≤ B) (h0 : 0 ≤ B) : capT d t r ≤ B := by unfold capT; split <;> omega
set_option maxRecDepth 100000 in
theorem cap_low {d : Int} {t : Int × Int → Int} {r : Int × Int} (h : 1 ≤ capT d t r) : d ≤ capT d t r := by have := cap_some h; omega
/-- What is in the queue has the least count. -/
structure LowQ (d : Int) (q : Qm) : Prop where
  ents : ∀ x ∈ q.ents, d ≤ x.2.2
  known : ∀ x ∈ q.known, d ≤ x.2
set_option maxRecDepth 100000 in
theorem lowQ_new (d : Int) : LowQ d newQ := ⟨fun x h => by simp [newQ] at h, fun x h => by simp [newQ] at h⟩
set_option maxRecDepth 100000 in
theorem LowQ.put {d : Int} {q : Qm} (h : LowQ d q) (p : Int × Int) {n : Int} (hn : 1 ≤ n → d ≤ n) : LowQ d (putQ q p n) := by
  unfold putQ
  split
  · exact ⟨h.ents, fun x hx => h.known x (del_mem.1 hx).1⟩
  · rename_i k
    have hd := hn (by omega)
    have hk : ∀ x ∈ insC p n q.known, d ≤ x.2 := fun x hx => by
      rcases ins_mem.1 hx with e | e
      · rw [e]; exact hd
      · exact h.known x e.1
    cases manyQ (q.ents.length + 1) (insC p n q.known).length with
    | true => rw [cond_true]; exact ⟨fun x hx => hk _ (mem_itemsOf.1 hx), hk⟩
    | false =>
      rw [cond_false]
      refine ⟨fun x hx => ?_, hk⟩
      rcases List.mem_append.1 hx with e | e
      · exact h.ents x e
      · rw [List.mem_singleton] at e; rw [e]; exact hd
set_option maxRecDepth 100000 in
theorem LowQ.pop {J : List Joint} {f : Int × Int → Int} {d : Int} {q : Qm} (h : LowQ d q) {o : Option Item} {l : List Item} {n : Nat} (hp : Pops J f q.ents o l n) : LowQ d (popQ q o l n) :=
  ⟨fun x hx => h.ents x (hp.sub x hx), fun x hx => by
    cases o with
    | none => exact h.known x hx
    | some y => exact h.known x (del_mem.1 hx).1⟩
/-- Of each pair that isn't still to be put, the queue knows the count, and has an entry with it. -/
structure QOk (t : Int × Int → Int) (todo : Int × Int → Prop) (q : Qm) : Prop where
  known : ∀ r, ¬ todo r → ∀ c, (r, c) ∈ q.known ↔ (c = t r ∧ 1 ≤ c)
  ents : ∀ r, ¬ todo r → 1 ≤ t r → (r.1, r.2, t r) ∈ q.ents
variable {t : Int × Int → Int} {todo : Int × Int → Prop} {q : Qm} {p : Int × Int}
set_option maxRecDepth 100000 in
theorem QOk.mono {todo' : Int × Int → Prop} (h : QOk t todo q) (k : ∀ r, todo r → todo' r) : QOk t todo' q :=
  ⟨fun r hr => h.known r fun e => hr (k r e), fun r hr => h.ents r fun e => hr (k r e)⟩
set_option maxRecDepth 100000 in
/-- Counts are others; those whose are, are to be put. -/
theorem QOk.turn {t' : Int × Int → Int} (h : QOk t todo q) (k : ∀ r, ¬ todo r → t' r = t r) : QOk t' todo q :=
  ⟨fun r hr c => by rw [k r hr]; exact h.known r hr c, fun r hr => by rw [k r hr]; exact h.ents r hr⟩
set_option maxRecDepth 100000 in
theorem QOk.put (h : QOk t todo q) (p : Int × Int) : QOk t (fun r => todo r ∧ r ≠ p) (putQ q p (t p)) := by
  have hk : ∀ r, ¬ (todo r ∧ r ≠ p) → r ≠ p → ¬ todo r := fun r hr hne e => hr ⟨e, hne⟩
  unfold putQ
  split
  · rename_i hn
    refine ⟨fun r hr c => ?_, fun r hr h1 => ?_⟩
    · show (r, c) ∈ delC q.known p ↔ _
      rw [del_mem]
      by_cases e : r = p
      · subst e
        exact ⟨fun k => absurd rfl k.2, fun k => by omega⟩
      · rw [h.known r (hk r hr e)]
        exact ⟨fun k => k.1, fun k => ⟨k, e⟩⟩
    · by_cases e : r = p
      · subst e; omega
      · exact h.ents r (hk r hr e) h1
  · rename_i hn
    have hkn : ∀ r, ¬ (todo r ∧ r ≠ p) → ∀ c, (r, c) ∈ insC p (t p) q.known ↔ (c = t r ∧ 1 ≤ c) := fun r hr c => by
      rw [ins_mem]
      by_cases e : r = p
      · subst e
        constructor
        · rintro (k | k)
          · have := (Prod.mk.inj k).2
            exact ⟨this, by omega⟩
          · exact absurd rfl k.2
        · intro k
          exact .inl (by rw [k.1])
      · rw [← h.known r (hk r hr e)]
        constructor
        · rintro (k | k)
          · exact absurd (Prod.mk.inj k).1 e
          · exact k.1
        · exact fun k => .inr ⟨k, e⟩
    cases hm : manyQ (q.ents.length + 1) (insC p (t p) q.known).length with
    | true =>
      rw [cond_true]
      refine ⟨hkn, fun r hr h1 => ?_⟩
      show _ ∈ itemsOf (insC p (t p) q.known)
      rw [mem_itemsOf]
      exact (hkn r hr (t r)).2 ⟨rfl, h1⟩
    | false =>
      rw [cond_false]
      refine ⟨hkn, fun r hr h1 => ?_⟩
      show _ ∈ q.ents ++ [(p.1, p.2, t p)]
      rw [List.mem_append, List.mem_singleton]
      by_cases e : r = p
      · subst e; exact .inr rfl
      · exact .inl (h.ents r (hk r hr e) h1)
/-- Puts, one behind another. -/
def putsQ (t : Int × Int → Int) (Y : List (Int × Int)) (q : Qm) : Qm := Y.foldl (fun q r => putQ q r (t r)) q
set_option maxRecDepth 100000 in
theorem putsQ_snoc (t : Int × Int → Int) (Y : List (Int × Int)) (r : Int × Int) (q : Qm) : putsQ t (Y ++ [r]) q = putQ (putsQ t Y q) r (t r) := by simp [putsQ]
set_option maxRecDepth 100000 in
theorem QOk.puts : ∀ (Y : List (Int × Int)) {todo : Int × Int → Prop} {q : Qm}, QOk t todo q → QOk t (fun r => todo r ∧ r ∉ Y) (putsQ t Y q)
  | [], todo, q, h => h.mono fun r hr => ⟨hr, by simp⟩
  | p :: Y, todo, q, h => ((h.put p).puts Y).mono fun r hr => ⟨hr.1.1, fun k => by
      rcases List.mem_cons.1 k with k | k
      · exact hr.1.2 k
      · exact hr.2 k⟩
set_option maxRecDepth 100000 in
theorem put_pu (q : Qm) (p : Int × Int) (n : Int) : (putQ q p n).pu = q.pu + (if 1 ≤ n then 1 else 0) ∧ (putQ q p n).po = q.po := by
  unfold putQ
  split
  · rw [if_neg (by omega)]; exact ⟨by simp, rfl⟩
  · rw [if_pos (by omega)]
    cases manyQ (q.ents.length + 1) (insC p n q.known).length <;> exact ⟨rfl, rfl⟩
set_option maxRecDepth 100000 in
theorem LowQ.puts {d : Int} : ∀ (Y : List (Int × Int)) {q : Qm}, LowQ d q → (∀ r ∈ Y, 1 ≤ t r → d ≤ t r) → LowQ d (putsQ t Y q)
  | [], _, h, _ => h
  | p :: Y, _, h, k => LowQ.puts Y (h.put p (k p List.mem_cons_self)) fun r hr => k r (List.mem_cons_of_mem _ hr)
set_option maxRecDepth 100000 in
theorem puts_pu : ∀ (Y : List (Int × Int)) (q : Qm), (putsQ t Y q).pu = q.pu + ((Y.filter fun r => decide (1 ≤ t r)).length : Int) ∧ (putsQ t Y q).po = q.po
  | [], q => by simp [putsQ]
  | p :: Y, q => by
    obtain ⟨h1, h2⟩ := puts_pu Y (putQ q p (t p))
    obtain ⟨h3, h4⟩ := put_pu q p (t p)
    have e : putsQ t (p :: Y) q = putsQ t Y (putQ q p (t p)) := rfl
    rw [e, h1, h2, h3, h4, List.filter_cons]
    refine ⟨?_, rfl⟩
    by_cases hp : 1 ≤ t p
    · rw [if_pos hp, if_pos (by simpa using hp), List.length_cons]; omega
    · rw [if_neg hp, if_neg (by simpa using hp)]; omega
/-- What a queue's greatest length was is bounded by what was pushed. -/
def PeakOk (q : Qm) : Prop := 0 ≤ q.pk ∧ q.pk ≤ q.pu
set_option maxRecDepth 100000 in
theorem PeakOk.put {J : List Joint} (h : PeakOk q) (hs : SaneQ J q) (p : Int × Int) (n : Int) : PeakOk (putQ q p n) := by
  have hc := hs.cnt
  have ho := hs.po
  obtain ⟨h1, h2⟩ := h
  unfold putQ
  split
  · exact ⟨h1, h2⟩
  · cases manyQ (q.ents.length + 1) (insC p n q.known).length <;> exact ⟨by simp only [cond_true, cond_false]; omega, by simp only [cond_true, cond_false]; omega⟩
set_option maxRecDepth 100000 in
theorem sane_puts {J : List Joint} : ∀ (Y : List (Int × Int)) {q : Qm}, SaneQ J q → PeakOk q → (∀ r ∈ Y, FitsPr r ∧ ThereP J r ∧ t r ≤ 9223372036854775807) → SaneQ J (putsQ t Y q) ∧ PeakOk (putsQ t Y q)
  | [], q, h, k, _ => ⟨h, k⟩
  | p :: Y, q, h, k, hf => by
    obtain ⟨f1, f2, f3⟩ := hf p List.mem_cons_self
    exact sane_puts Y (h.put f1 f2.1 f2.2 f3) (k.put h p (t p)) fun r hr => hf r (List.mem_cons_of_mem _ hr)
set_option maxRecDepth 100000 in
theorem SaneQ.more {J : List Joint} (h : SaneQ J q) (p : Int × Int) : SaneQ (moreJ J p) q :=
  ⟨fun x hx => by obtain ⟨a, b, c, d⟩ := h.ents x hx; exact ⟨a, there_more b, there_more c, d⟩, fun x hx => by obtain ⟨a, b, c, d⟩ := h.known x hx; exact ⟨a, there_more b, there_more c, d⟩, h.ris, h.po, h.cnt, h.len, h.re⟩
/-! What is popped. -/
set_option maxRecDepth 100000 in
theorem QOk.pop {J : List Joint} {d : Int} {x : Item} {l : List Item} {n : Nat} (h : QOk (capT d t) (fun _ => False) q) (hp : Pops J t q.ents (some x) l n) : QOk (capT d t) (fun r => r = pairI x) (popQ q (some x) l n) := by
  obtain ⟨h1, h2, h3, h4⟩ := hp.some x rfl
  refine ⟨fun r hr c => ?_, fun r hr hc => ?_⟩
  · show (r, c) ∈ delC q.known (pairI x) ↔ _
    rw [del_mem, h.known r (fun e => e)]
    exact ⟨fun k => k.1, fun k => ⟨k, hr⟩⟩
  · show _ ∈ l
    rcases h4 _ (h.ents r (fun e => e) hc) (cap_some hc).1.symm with e | e
    · exact absurd (by rw [← e]; rfl) hr
    · exact e
set_option maxRecDepth 100000 in
/-- Where none is popped none is left that is counted often enough. -/
theorem QOk.nothing {J : List Joint} {d : Int} {l : List Item} {n : Nat} (h : QOk (capT d t) (fun _ => False) q) (hp : Pops J t q.ents none l n) : (∀ r, ¬ 1 ≤ capT d t r) ∧ QOk (capT d t) (fun _ => False) (popQ q none l n) := by
  have h1 : ∀ r, ¬ 1 ≤ capT d t r := fun r hr => (hp.nothing rfl).2 _ (h.ents r (fun e => e) hr) (cap_some hr).1.symm
  exact ⟨h1, fun r hr c => h.known r hr c, fun r _ hc => absurd hc (h1 r)⟩
set_option maxRecDepth 100000 in
theorem QOk.best {J : List Joint} {d : Int} {ws : List Wd} {x : Item} {l : List Item} {n : Nat} (hg : Good J) (hw : GoodW J ws) (hs : SaneQ J q) (hl : LowQ d q) (h : QOk (capT d (totW ws)) (fun _ => False) q) (hp : Pops J (totW ws) q.ents (some x) l n) :
    BestRel (txWs J ws) (ctWs ws) (mgOf J (pairI x)) x.2.2 ∧ ThereP J (pairI x) ∧ FitsPr (pairI x) ∧ 1 ≤ x.2.2 ∧ totW ws (pairI x) = x.2.2 ∧ d ≤ x.2.2 := by
  obtain ⟨h1, h2, h3, h4⟩ := hp.some x rfl
  obtain ⟨s1, s2, s3, s4⟩ := hs.ents x h1
  have hd := hl.ents x h1
  have ht : ThereP J (pairI x) := ⟨s2, s3⟩
  have hc := tx_tot hg ht hw
  refine ⟨.inr ⟨s4, hc.trans h2, fun m => ?_⟩, ht, ⟨s1.1, s1.2.1⟩, s4, h2, hd⟩
  by_cases hm : 1 ≤ cntW m (txWs J ws) (ctWs ws)
  · obtain ⟨r, rfl, hr⟩ := tx_some hw hm
    have e := tx_tot hg hr hw
    rw [e] at hm ⊢
    by_cases hlow : totW ws r < d
    · exact ⟨by omega, fun k => by omega⟩
    have ec : capT d (totW ws) r = totW ws r := cap_of (by omega)
    have hb := h3 _ (h.ents r (fun e => e) (by rw [ec]; exact hm)) ec.symm
    rw [ec] at hb
    have hb' : ¬ (x.2.2 < totW ws r ∨ (totW ws r = x.2.2 ∧ AheadP J r (pairI x))) := fun k => by
      have := (better_iff (J := J) (x := (r.1, r.2, totW ws r)) (y := x)).2 k
      rw [hb] at this
      cases this
    refine ⟨by refine Classical.byContradiction fun k => hb' (.inl (by omega)), fun e1 hne => ?_⟩
    rcases aheadM_total hne with k | k
    · exact absurd (.inr ⟨e1, aheadM_iff.1 k⟩) hb'
    · exact k
  · exact ⟨by omega, fun e => by omega⟩
/-! There is always a best one, or none. -/
set_option maxRecDepth 100000 in
theorem couples_in {m : Mg} : ∀ {X : List ByteArray}, 1 ≤ cntT m X → m ∈ X.zip X.tail
  | [], h => by simp [cntT] at h
  | [_], h => by simp [cntT] at h
  | x :: y :: r, h => by
    have e2 : cntT m (x :: y :: r) = (if x = m.1 ∧ y = m.2 then 1 else 0) + cntT m (y :: r) := rfl
    rw [e2] at h
    show m ∈ (x, y) :: (y :: r).zip r
    by_cases h1 : x = m.1 ∧ y = m.2
    · rw [h1.1, h1.2]; exact List.mem_cons_self
    · rw [if_neg h1] at h
      exact List.mem_cons_of_mem _ (couples_in (X := y :: r) (by omega))
set_option maxRecDepth 100000 in
theorem bestIn_ex {WW : List (List ByteArray)} {C : List Int} (S : List Mg) (hS : ∀ m ∈ S, 1 ≤ cntW m WW C) : ∃ b n, BestIn WW C S b n := by
  suffices h : ∀ k, k ≤ S.length → ∃ b n, BestIn WW C (S.take k) b n by
    have := h S.length (Nat.le_refl _)
    rwa [List.take_length] at this
  intro k
  induction k with
  | zero => exact fun _ => ⟨_, _, best_none WW C⟩
  | succ k ih =>
    intro hk
    obtain ⟨b, n, hb⟩ := ih (by omega)
    rw [List.take_succ_eq_append_getElem (show k < S.length by omega)]
    have h1 := hS S[k] (List.getElem_mem _)
    by_cases e : n < cntW S[k] WW C ∨ (cntW S[k] WW C = n ∧ aheadM S[k] b = true)
    · exact ⟨_, _, hb.turn h1 e⟩
    · exact ⟨_, _, hb.keep h1 e⟩
set_option maxRecDepth 100000 in
theorem best_ex (WW : List (List ByteArray)) (C : List Int) : ∃ b n, BestRel WW C b n := by
  obtain ⟨b, n, h⟩ := bestIn_ex (WW := WW) (C := C) ((WW.flatMap fun w => w.zip w.tail).filter fun m => decide (1 ≤ cntW m WW C)) fun m hm => by
    have := (List.mem_filter.1 hm).2
    exact of_decide_eq_true this
  refine ⟨b, n, h.best fun m => ?_⟩
  rw [List.mem_filter, decide_eq_true_eq]
  refine ⟨fun k => k.2, fun k => ⟨?_, k⟩⟩
  obtain ⟨w, hw, h1⟩ := cnt_some k
  exact List.mem_flatMap.2 ⟨w, hw, couples_in h1⟩
set_option maxRecDepth 100000 in
theorem QOk.empty {J : List Joint} {d : Int} {ws : List Wd} {l : List Item} {n : Nat} (hd : 1 ≤ d) (hg : Good J) (hw : GoodW J ws) (h : QOk (capT d (totW ws)) (fun _ => False) q) (hp : Pops J (totW ws) q.ents none l n) : ∃ m k, BestRel (txWs J ws) (ctWs ws) m k ∧ k < d := by
  obtain ⟨m, k, hb⟩ := best_ex (txWs J ws) (ctWs ws)
  refine ⟨m, k, hb, ?_⟩
  rcases hb with ⟨e, _⟩ | ⟨h1, h2, _⟩
  · omega
  · obtain ⟨r, rfl, hr⟩ := tx_some (m := m) hw (by omega)
    rw [tx_tot hg hr hw] at h2
    refine Classical.byContradiction fun hc => ?_
    exact (h.nothing hp).1 r (by rw [cap_of (by omega)]; omega)
/-! How many counts a merge turns. -/
set_option maxRecDepth 100000 in
theorem touched {p : Int × Int} {s : Int} : ∀ (X : List Int) (c d : Int), ∃ T : List (Int × Int), T.length ≤ 4 * timesL p X + (if c = d then 0 else 2) ∧ ∀ r, r ≠ p → r ∉ T → cntP (c :: mergeL p s X) r = cntP (d :: X) r
  | [], c, d => ⟨[], by simp, fun r _ _ => rfl⟩
  | [x], c, d => by
    by_cases e : c = d
    · exact ⟨[], by simp, fun r _ _ => by rw [e]; rfl⟩
    · refine ⟨[(c, x), (d, x)], by rw [if_neg e]; simp, fun r _ hr => ?_⟩
      show (if (c, x) = r then 1 else 0) + cntP [x] r = (if (d, x) = r then 1 else 0) + cntP [x] r
      rw [if_neg fun k => hr (by rw [← k]; simp), if_neg fun k => hr (by rw [← k]; simp)]
  | x :: y :: r, c, d => by
    by_cases hm : x = p.1 ∧ y = p.2
    · obtain ⟨T, h1, h2⟩ := touched (p := p) (s := s) r s y
      refine ⟨(c, s) :: (d, x) :: T, ?_, fun q hq hT => ?_⟩
      · have e : timesL p (x :: y :: r) = timesL p r + 1 := by rw [timesL, if_pos hm]
        rw [e]
        simp only [List.length_cons]
        split at h1 <;> omega
      · have e : mergeL p s (x :: y :: r) = s :: mergeL p s r := by rw [mergeL, if_pos hm]
        have e2 : (x, y) = p := Prod.ext hm.1 hm.2
        rw [e]
        show (if (c, s) = q then 1 else 0) + cntP (s :: mergeL p s r) q = (if (d, x) = q then 1 else 0) + ((if (x, y) = q then 1 else 0) + cntP (y :: r) q)
        rw [h2 q hq fun k => hT (by simp [k]), if_neg fun k => hT (by rw [← k]; simp), if_neg fun k => hT (by rw [← k]; simp), if_neg fun k => hq (by rw [← k, e2])]
        omega
    · obtain ⟨T, h1, h2⟩ := touched (p := p) (s := s) (y :: r) x x
      have e : mergeL p s (x :: y :: r) = x :: mergeL p s (y :: r) := by rw [mergeL, if_neg hm]
      have e1 : timesL p (x :: y :: r) = timesL p (y :: r) := by rw [timesL, if_neg hm]
      rw [if_pos rfl] at h1
      rw [e, e1]
      by_cases e : c = d
      · refine ⟨T, by omega, fun q hq hT => ?_⟩
        show (if (c, x) = q then 1 else 0) + cntP (x :: mergeL p s (y :: r)) q = (if (d, x) = q then 1 else 0) + cntP (x :: y :: r) q
        rw [h2 q hq hT, e]
      · refine ⟨(c, x) :: (d, x) :: T, by rw [if_neg e]; simp only [List.length_cons]; omega, fun q hq hT => ?_⟩
        show (if (c, x) = q then 1 else 0) + cntP (x :: mergeL p s (y :: r)) q = (if (d, x) = q then 1 else 0) + cntP (x :: y :: r) q
        rw [h2 q hq fun k => hT (by simp [k]), if_neg fun k => hT (by rw [← k]; simp), if_neg fun k => hT (by rw [← k]; simp)]
set_option maxRecDepth 100000 in
theorem touched0 {p : Int × Int} {s : Int} : ∀ X : List Int, ∃ T : List (Int × Int), T.length ≤ 4 * timesL p X ∧ ∀ r, r ≠ p → r ∉ T → cntP (mergeL p s X) r = cntP X r
  | [] => ⟨[], by simp, fun r _ _ => rfl⟩
  | [x] => ⟨[], by simp, fun r _ _ => rfl⟩
  | x :: y :: r => by
    by_cases hm : x = p.1 ∧ y = p.2
    · obtain ⟨T, h1, h2⟩ := touched (p := p) (s := s) r s y
      refine ⟨T, ?_, fun q hq hT => ?_⟩
      · have e : timesL p (x :: y :: r) = timesL p r + 1 := by rw [timesL, if_pos hm]
        rw [e]
        split at h1 <;> omega
      · have e : mergeL p s (x :: y :: r) = s :: mergeL p s r := by rw [mergeL, if_pos hm]
        rw [e, h2 q hq hT]
        show _ = (if (x, y) = q then 1 else 0) + cntP (y :: r) q
        rw [if_neg fun k => hq (by rw [← k]; exact Prod.ext hm.1 hm.2)]
        omega
    · obtain ⟨T, h1, h2⟩ := touched (p := p) (s := s) (y :: r) x x
      rw [if_pos rfl] at h1
      refine ⟨T, by rw [timesL, if_neg hm]; omega, fun q hq hT => ?_⟩
      rw [mergeL, if_neg hm]
      exact h2 q hq hT
set_option maxRecDepth 100000 in
theorem touchedW {p : Int × Int} {s : Int} : ∀ ws : List Wd, ∃ T : List (Int × Int), (T.length : Int) ≤ 4 * sumW (fun x => (timesL p x.1 : Int)) ws ∧ ∀ r, r ≠ p → r ∉ T → totW (mergeWs p s ws) r = totW ws r
  | [] => ⟨[], by simp [sumW], fun r _ _ => rfl⟩
  | x :: ws => by
    obtain ⟨T, h1, h2⟩ := touchedW (p := p) (s := s) ws
    obtain ⟨T2, k1, k2⟩ := touched0 (p := p) (s := s) x.1
    refine ⟨T2 ++ T, ?_, fun r hr hT => ?_⟩
    · rw [List.length_append, sumW]; omega
    · rw [List.mem_append] at hT
      have e1 : totW (mergeWs p s (x :: ws)) r = x.2 * cntP (mergeL p s x.1) r + totW (mergeWs p s ws) r := rfl
      have e2 : totW (x :: ws) r = x.2 * cntP x.1 r + totW ws r := rfl
      rw [e1, e2, h2 r hr fun k => hT (.inr k), k2 r hr fun k => hT (.inl k)]
set_option maxRecDepth 100000 in
theorem tr_sum (p : Int × Int) (s : Int) (ws : List Wd) : lenW (mergeWs p s ws) + sumW (fun x => (timesL p x.1 : Int)) ws = lenW ws := by
  induction ws with
  | nil => rfl
  | cons x r ih =>
    have h := pmerge_len (p := p) (s := s) x.1
    have e1 : lenW (mergeWs p s (x :: r)) = ((mergeL p s x.1).length : Int) + lenW (mergeWs p s r) := rfl
    have e2 : lenW (x :: r) = (x.1.length : Int) + lenW r := rfl
    rw [e1, e2, sumW]
    omega
set_option maxRecDepth 100000 in
/-- What is pushed behind a merge. -/
theorem push_few {d : Int} {p : Int × Int} {s : Int} {ws : List Wd} {Y : List (Int × Int)} (hn : Y.Nodup) (hY : ∀ r ∈ Y, totW (mergeWs p s ws) r ≠ totW ws r) (hp : totW (mergeWs p s ws) p < 1) :
    ((Y.filter fun r => decide (1 ≤ capT d (totW (mergeWs p s ws)) r)).length : Int) ≤ 4 * (lenW ws - lenW (mergeWs p s ws)) := by
  obtain ⟨T, h1, h2⟩ := touchedW (p := p) (s := s) ws
  have h3 := tr_sum p s ws
  have h4 : (Y.filter fun r => decide (1 ≤ capT d (totW (mergeWs p s ws)) r)).length ≤ T.length := len_sub (hn.filter _) fun r hr => by
    obtain ⟨a, b⟩ := List.mem_filter.1 hr
    have b' := (cap_some (of_decide_eq_true b)).2.2
    refine Classical.byContradiction fun k => hY r a (h2 r (fun e => by rw [e] at b'; omega) k)
  omega
end Go.Proofs.YtnmacalbbmeedaaGreat
