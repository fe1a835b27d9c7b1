/- The contract of Splitter.Feed. -/
import Derived.Test.YtfajhjppbecjaaaSplit
namespace Go.Proofs.Ytfajhjppbecjaaa
open Go.RowKit

theorem feed_nil (x : Value) (w : World) : Calls Try.prog 26 #[.pointer none, x] w fun e w' => e = .returned (.tuple #[.slice none 0 0, .bool false]) ∧ w = w' := by
  go_enter Try.func26, Try.ntmps26
  go_wp2
  go_ret2
  exact ⟨rfl, rfl⟩
theorem feed_long (x : Value) (w : World) (base K lim : Nat) (v : Value) (o : List UInt8) (h : Spl w base K lim v o true) :
    Calls Try.prog 26 #[.pointer (some ⟨K, 0, none⟩), x] w fun e w' => e = .returned (.tuple #[.slice none 0 0, .bool false]) ∧ w = w' := by
  obtain ⟨_, _, h2, _⟩ := h.cells
  clear h
  go_enter Try.func26, Try.ntmps26
  go_wp2
  go_ret2
  exact ⟨rfl, rfl⟩
theorem gap_yes (c : UInt8) (w : World) (h : gapB c = true) : Calls Try.prog 28 #[.int .u8 (c.toNat : Int)] w fun e w' => e = .returned (.bool true) ∧ w = w' := by
  rw [← h]; exact gap_any c w
theorem gap_no (c : UInt8) (w : World) (h : gapB c = false) : Calls Try.prog 28 #[.int .u8 (c.toNat : Int)] w fun e w' => e = .returned (.bool false) ∧ w = w' := by
  rw [← h]; exact gap_any c w
/-- What Feed tells behind the text h of the piece l: the words N, and whether all is well; the open word is then o. -/
def FeedRes (lim : Nat) (h l : List UInt8) (N : List (List UInt8)) (b : Bool) (o : List UInt8) : Prop :=
  (b = true ∧ fits lim (h ++ l) ∧ ended (h ++ l) = ended h ++ N ∧ o = opn (h ++ l)) ∨
  (b = false ∧ o = [] ∧ ∃ k, longAt lim (h ++ l) k ∧ h.length ≤ k ∧ ended ((h ++ l).take k) = ended h ++ N)
def FeedRet (w : World) (base K lim : Nat) (v : Value) (h l : List UInt8) (e : Ending) (w' : World) : Prop :=
  ∃ r N b v' o, e = .returned (.tuple #[r, .bool b]) ∧ FeedRes lim h l N b o ∧ ownS w' w.heap.size r N ∧ Spl w' base K lim v' o (!b) ∧ Kept (mine K v) w w' ∧ Moved v v' w.heap.size
def FeedRel (w : World) (base K lim : Nat) (v : Value) (h l : List UInt8) (words i : Value) (wr : World) : Prop :=
  ∃ (k : Nat) (v' : Value) (N : List (List UInt8)), k ≤ l.length ∧ i = .int .i64 (k : Int) ∧ fits lim (h ++ l.take k) ∧ ended (h ++ l.take k) = ended h ++ N ∧
    ownS wr w.heap.size words N ∧ Spl wr base K lim v' (opn (h ++ l.take k)) false ∧ Kept (mine K v) w wr ∧ Moved v v' w.heap.size
theorem take_step (h l : List UInt8) {k : Nat} (hk : k < l.length) : h ++ l.take (k + 1) = (h ++ l.take k) ++ [l[k]] := by
  rw [List.take_succ_eq_append_getElem hk]; simp
theorem bytes_in {w wr : World} {base K lim : Nat} {v x : Value} {o l : List UInt8} {b : Bool} (hS : Spl w base K lim v o b) (hx : bytesAt w x l) (hxv : x.ownBlock ≠ v.ownBlock) (hk : Kept (mine K v) w wr) : bytesAt wr x l := by
  refine hx.kept fun g hg => hk.block g (hx.lt g hg) ?_
  rintro (rfl | hm)
  · obtain ⟨cs, fr, hc⟩ := hx.block g hg
    rw [hS.2.1] at hc; cases hc
  · exact hxv (by rw [hg, hm])
theorem ownS.spl {w w1 : World} {base K lim b : Nat} {v u : Value} {o : List UInt8} {bb : Bool} {L : List (List UInt8)} (h : ownS w b u L) (hS : Spl w base K lim v o bb) (hk : Kept (mine K v) w w1) : ownS w1 b u L := by
  refine h.kept fun g hg => hk.block g (h.lt g hg).2 ?_
  obtain ⟨cs, hc⟩ := h.block g hg
  rintro (rfl | hm)
  · rw [hS.2.1] at hc; cases hc
  · obtain ⟨cs2, hc2⟩ := ownB.block hS.2.2 g hm.symm
    rw [hc] at hc2; cases hc2
theorem Spl.grownS {w w1 : World} {base K lim b : Nat} {v u : Value} {o : List UInt8} {bb : Bool} {L : List (List UInt8)} (hS : Spl w base K lim v o bb) (h : ownS w b u L) (hg : w.grownBy w1 u.ownBlock) : Spl w1 base K lim v o bb := by
  refine hS.kept fun k hk => hg.block k (hS.mine_lt k hk) ?_
  intro e
  obtain ⟨cs, hc⟩ := h.block k e.symm
  rcases hk with rfl | hm
  · rw [hS.2.1] at hc; cases hc
  · obtain ⟨cs2, hc2⟩ := ownB.block hS.2.2 k hm.symm
    rw [hc] at hc2; cases hc2
theorem Kept.spl {w wr w1 : World} {K n : Nat} {v v' : Value} (h : Kept (mine K v) w wr) (k : Kept (mine K v') wr w1) (hm : Moved v v' n) (hn : w.heap.size ≤ n) : Kept (mine K v) w w1 :=
  h.trans k fun _ hi ht => mine_moved hm (Nat.lt_of_lt_of_le hi hn) ht
theorem N_len {h t : List UInt8} {N : List (List UInt8)} (he : ended t = ended h ++ N) : N.length ≤ t.length := by
  have h1 := ended_len t
  rw [he, List.length_append] at h1; omega
/-- A gap, and no word is open. -/
theorem feedRel_gap0 {w wr : World} {base K lim : Nat} {v v' u : Value} {h l : List UInt8} {N : List (List UInt8)} {k : Nat} (hlt : k < l.length) (hg : gapB l[k] = true) (hf : fits lim (h ++ l.take k)) (he : ended (h ++ l.take k) = ended h ++ N)
    (ho : opn (h ++ l.take k) = []) (hown : ownS wr w.heap.size u N) (hS : Spl wr base K lim v' (opn (h ++ l.take k)) false) (hk : Kept (mine K v) w wr) (hm : Moved v v' w.heap.size) :
    FeedRel w base K lim v h l u (.int .i64 ((k + 1 : Nat) : Int)) wr := by
  refine ⟨k + 1, v', N, hlt, rfl, ?_, ?_, hown, ?_, hk, hm⟩
  · rw [take_step h l hlt]; exact fits_gap hf hg
  · rw [take_step h l hlt, ended_gap hg, ho, he]; simp [endL]
  · rw [take_step h l hlt, opn_gap hg, ← ho]; exact hS
/-- A gap ends a word. -/
theorem feedRel_gap1 {w wr w1 w2 : World} {base K lim : Nat} {v v' v2 u r : Value} {h l : List UInt8} {N : List (List UInt8)} {k : Nat} (hlt : k < l.length) (hg : gapB l[k] = true) (hf : fits lim (h ++ l.take k)) (he : ended (h ++ l.take k) = ended h ++ N)
    (ho : opn (h ++ l.take k) ≠ []) (hown1 : ownS w1 w.heap.size u N) (hS1 : Spl w1 base K lim v2 [] false) (hv2 : v2.ownBlock = v'.ownBlock) (hk : Kept (mine K v) w wr) (hm : Moved v v' w.heap.size)
    (hk1 : Kept (mine K v') wr w1) (hown2 : w2.ownsRow w.heap.size 9 1 r (N.length + 1) (scells N ++ [tx (opn (h ++ l.take k))])) (hgr : w1.grownBy w2 u.ownBlock) :
    FeedRel w base K lim v h l r (.int .i64 ((k + 1 : Nat) : Int)) w2 := by
  refine ⟨k + 1, v2, N ++ [opn (h ++ l.take k)], hlt, rfl, ?_, ?_, ?_, ?_, ?_, ?_⟩
  · rw [take_step h l hlt]; exact fits_gap hf hg
  · rw [take_step h l hlt, ended_gap hg, he]; simp [endL, ho]
  · unfold ownS; rw [List.length_append, scells_append]; exact hown2
  · rw [take_step h l hlt, opn_gap hg]; exact hS1.grownS hown1 hgr
  · refine (hk.spl hk1 hm (Nat.le_refl _)).grown hgr fun g hg hlt => ?_
    have := (hown1.lt g hg).1; omega
  · exact hm.trans (.inl hv2) (Nat.le_refl _)
/-- A byte more. -/
theorem feedRel_more {w wr w2 : World} {base K lim : Nat} {v v' v2 u : Value} {h l : List UInt8} {N : List (List UInt8)} {k : Nat} (hlt : k < l.length) (hg : gapB l[k] = false) (hf : fits lim (h ++ l.take k)) (he : ended (h ++ l.take k) = ended h ++ N)
    (hn : (opn (h ++ l.take k)).length ≠ lim) (hown : ownS wr w.heap.size u N) (hS : Spl wr base K lim v' (opn (h ++ l.take k)) false) (hk : Kept (mine K v) w wr) (hm : Moved v v' w.heap.size)
    (hown2 : w2.ownsRow base 5 1 v2 ((opn (h ++ l.take k)).length + 1) (bcells (opn (h ++ l.take k)) ++ [.int .u8 (l[k].toNat : Int)])) (hgr : wr.grownBy w2 v'.ownBlock) (hat : v'.ownBlock = v2.ownBlock ∨ ∀ g, v2.ownBlock = some g → wr.heap.size ≤ g) :
    FeedRel w base K lim v h l u (.int .i64 ((k + 1 : Nat) : Int)) (w2.setCell ⟨K, 1, none⟩ v2) := by
  have hle : (opn (h ++ l.take k)).length ≤ lim := by have := hf (h ++ l.take k).length (Nat.le_refl _); rwa [List.take_of_length_le (Nat.le_refl _)] at this
  have hK2 : w2.heap[K]? = wr.heap[K]? := hgr.block K hS.lt hS.ne
  refine ⟨k + 1, v2, N, hlt, rfl, ?_, ?_, ?_, ?_, ?_, ?_⟩
  · rw [take_step h l hlt]; exact fits_more hf hg (by omega)
  · rw [take_step h l hlt, ended_more hg, he]
  · have h1 : ownS w2 w.heap.size u N := by
      refine hown.kept fun g hg' => hgr.block g (hown.lt g hg').2 fun e => ?_
      obtain ⟨cs, hc⟩ := hown.block g hg'
      obtain ⟨cs2, hc2⟩ := ownB.block hS.2.2 g e.symm
      rw [hc] at hc2; cases hc2
    refine h1.kept fun g hg' => Below.heap_setCell _ _ _ _ fun e => ?_
    obtain ⟨cs, hc⟩ := hown.block g hg'
    have e' : g = K := e
    rw [e', hS.2.1] at hc; cases hc
  · have hO : ownB w2 base 5 v2 (opn (h ++ l.take (k + 1))) := by
      unfold ownB; rw [take_step h l hlt, opn_more hg, List.length_append, bcells_append]; exact hown2
    have hne : some K ≠ v2.ownBlock := by
      intro e
      obtain ⟨cs, hc⟩ := ownB.block hO K e.symm
      rw [hK2, hS.2.1] at hc; cases hc
    refine ⟨hS.1, ?_, ownB.kept hO fun g hg' => Below.heap_setCell _ _ _ _ fun e => hne (by have e' : g = K := e; rw [← e', hg'])⟩
    rw [heap_setCell_at (hK2.trans hS.2.1)]; rfl
  · refine (hk.grown hgr fun g hg' hlt' => ?_).setCell _ _ fun _ => .inl rfl
    exact mine_moved hm hlt' (.inr hg'.symm)
  · refine hm.trans ?_ (Nat.le_refl _)
    rcases hat with hat | hat
    · exact .inl hat.symm
    · exact .inr fun g hg' => Nat.le_trans hk.size (hat g hg')
/-- The word is too long. -/
theorem feedRet_long {w wr : World} {base K lim : Nat} {v v' u : Value} {h l : List UInt8} {N : List (List UInt8)} {k : Nat} (hlt : k < l.length) (hg : gapB l[k] = false) (hf : fits lim (h ++ l.take k)) (he : ended (h ++ l.take k) = ended h ++ N)
    (hn : (opn (h ++ l.take k)).length = lim) (hown : ownS wr w.heap.size u N) (hS : Spl wr base K lim v' (opn (h ++ l.take k)) false) (hk : Kept (mine K v) w wr) :
    FeedRet w base K lim v h l (.returned (.tuple #[u, .bool false])) ((wr.setCell ⟨K, 1, none⟩ (.slice none 0 0)).setCell ⟨K, 2, none⟩ (.bool true)) := by
  have hsplit : h ++ l = (h ++ l.take k) ++ l[k] :: l.drop (k + 1) := by
    rw [List.append_assoc, List.append_cancel_left_eq]
    conv => lhs; rw [← List.take_append_drop k l, List.drop_eq_getElem_cons hlt]
  have hkl : (h ++ l.take k).length = h.length + k := by rw [List.length_append, List.length_take]; omega
  have hL : longAt lim (h ++ l) (h ++ l.take k).length := by rw [hsplit]; exact longAt_mk hf hg (by omega)
  refine ⟨u, N, false, .slice none 0 0, [], rfl, .inr ⟨rfl, rfl, (h ++ l.take k).length, hL, by omega, ?_⟩, ?_, (hS.store (o' := []) (World.ownsRow_nil wr base 5 1)).fail, (hk.setCell _ _ fun _ => .inl rfl).setCell _ _ fun _ => .inl rfl, .inr fun g hg => by simp [Value.ownBlock] at hg⟩
  · rw [← he]; congr 1
    rw [hsplit, List.take_append_of_le_length (Nat.le_refl _), List.take_of_length_le (Nat.le_refl _)]
  · have hKg : ∀ g, u.ownBlock = some g → g ≠ K := by
      intro g hg' e
      obtain ⟨cs, hc⟩ := hown.block g hg'
      rw [e, hS.2.1] at hc; cases hc
    exact (hown.kept fun g hg' => Below.heap_setCell _ _ _ _ (hKg g hg')).kept fun g hg' => Below.heap_setCell _ _ _ _ (hKg g hg')
set_option maxHeartbeats 1000000 in
theorem feed_any (x : Value) (w : World) (base K lim : Nat) (v : Value) (h l : List UInt8) (hS : Spl w base K lim v (opn h) false) (hf : fits lim h) (hx : bytesAt w x l) (hxv : x.ownBlock ≠ v.ownBlock)
    (hlen : h.length + l.length ≤ 1048576) :
    Calls Try.prog 26 #[.pointer (some ⟨K, 0, none⟩), x] w fun e w' => FeedRet w base K lim v h l e w' := by
  obtain ⟨i0, hi, hz0, hz1, hz2⟩ := info_parts Try.info5
  obtain ⟨j0, hj, hy0, hy1, hy2⟩ := info_parts Try.info9
  have HX := Lib.hid hx
  obtain ⟨g, cap, cs, fr, rfl, hg, hcs⟩ := hx
  have HS := Lib.hid hS
  have HF := Lib.hid hf
  have HC := Lib.hid hcs
  obtain ⟨_, _, h2, _⟩ := hS.cells
  clear hS hf hg hcs
  go_enter Try.func26, Try.ntmps26
  go_wp2
  go_loopw [6, 19] (fun words i wr => FeedRel w base K lim v h l words i wr) (fun _ i _ => l.length - (intOf i).toNat)
  case atStart => exact ⟨0, v, [], Nat.zero_le _, rfl, by simpa using HF.out, by simp, World.ownsRow_nil _ _ _ _, by simpa using HS.out, Kept.refl _ _, Moved.refl _ _⟩
  case round =>
    obtain ⟨k, v', N, hk, rfl, hfit, hend, hown, hsp, hkept, hmv⟩ := hrel
    have HFT := Lib.hid hfit
    have HE := Lib.hid hend
    have HSP := Lib.hid hsp
    clear hfit hend hsp
    by_cases hlt : k < l.length
    · obtain ⟨g', cap', cs', fr', e', hgr, hcr⟩ := bytes_in HS.out HX.out hxv hkept
      cases e'
      have hcell : wr.cell? ⟨g, k, none⟩ = some (.int .u8 (l[k].toNat : Int)) := by rw [cell_of_row wr g k cs' 5 fr' hgr]; exact hcr k hlt
      clear hgr hcr
      have hNl := N_len HE.out
      have hbl : (h ++ l.take k).length ≤ 1048576 := by rw [List.length_append, List.length_take]; omega
      have hol := opn_len (h ++ l.take k)
      obtain ⟨o, ho⟩ : ∃ o, o = opn (h ++ l.take k) := ⟨_, rfl⟩
      rw [← ho] at hol
      have HO := Lib.hid ho; clear ho
      have HSP2 : Hid (Spl wr base K lim v' o false) := Lib.hid (by rw [HO.out]; exact HSP.out)
      cases hgp : gapB l[k]
      · have HG := Lib.hid hgp; clear hgp
        obtain ⟨a1, cap1, hv1⟩ := ownB.form HSP2.out.2.2
        have hownb : wr.ownsRow base 5 1 v' o.length (bcells o) := HSP2.out.2.2
        have hbase : base ≤ wr.heap.size := Nat.le_of_lt (Nat.lt_of_le_of_lt HSP2.out.1 HSP2.out.lt)
        obtain ⟨c0, c1, c2, f0, f1, f2⟩ := HSP2.out.cells
        subst hv1
        by_cases hfull : (o.length : Int) = (lim : Int)
        · have HL := Lib.hid hfull
          go_wp2_with (go_at_call 28; refine (gap_no _ _ HG.out).mono ?_; rintro e w' ⟨rfl, rfl⟩)
          go_quiet (fail)
          go_wp2
          go_ret2
          exact feedRet_long hlt HG.out HFT.out HE.out (by rw [← HO.out]; have := HL.out; omega) hown HSP.out (hkept.drewN _)
        · have HL := Lib.hid hfull
          go_wp2_with (go_at_call 28; refine (gap_no _ _ HG.out).mono ?_; rintro e w' ⟨rfl, rfl⟩)
          go_quiet (fail)
          go_wp2_with (at_builtin; refine wpList_append_lies _ rfl (.tmp 27) (.tmp 29) 58 rfl base 5 i0 (.int .u8 0) 1 1 Try.underlying58 hi hz0 hz1 hz2 rfl (by decide) (.slice a1 o.length cap1) _ (bcells o) rfl (World.ownsRow.alloc hownb _) _ 1 1 [.int .u8 _] rfl rfl (cell_one_new _ _ _) (by intro u hu; simp at hu; subst hu; rfl) (by decide) (by unfold maxLen; omega) (by omega) (Nat.le_trans hbase (by simp)) _ rfl ?_; intro g3 cap3 w2 hown3 hgr3 hat3 hlt3; have hgr4 := grown_alloc hgr3; have hK2 := hgr4.block K HSP2.out.lt HSP2.out.ne; have cw : w2.cell? ⟨K, 1, none⟩ = some (.slice a1 o.length cap1) := (World.cell?_of_block (a := ⟨K, 1, none⟩) hK2).trans c1; have fw : w2.frozen? ⟨K, 1, none⟩ = false := (World.frozen?_of_block (a := ⟨K, 1, none⟩) hK2).trans f1; clear hgr3 hK2)
          go_roundw
          case rel => exact feedRel_more hlt HG.out HFT.out HE.out (by rw [← HO.out]; have := HL.out; omega) hown HSP.out hkept hmv (by rw [← HO.out]; exact hown3) hgr4 (by rcases hat3 with h | h; exact .inl h; exact .inr (by intro q hq; simp [Value.ownBlock] at hq; simp at h; omega))
          case measure => simp [intOf]; omega
      · have HG := Lib.hid hgp; clear hgp
        by_cases ho : o = []
        · have HE0 := Lib.hid ho
          clear ho
          go_wp2_with (first
            | (go_at_call 28; refine (gap_yes _ _ HG.out).mono ?_; rintro e w' ⟨rfl, rfl⟩)
            | (go_at_call 25; refine (end_none _ base K lim v' false (by rw [← HE0.out]; exact HSP2.out)).mono ?_; rintro e w' ⟨rfl, rfl⟩)
            | (at_builtin; refine wpList_append_own_none rfl (.tmp 36) (.tmp 38) 22 rfl w.heap.size 9 j0 1 Try.underlying22 hj _ _ _ rfl hown rfl ?_))
          go_roundw
          case rel => exact feedRel_gap0 hlt HG.out HFT.out HE.out (HO.out.symm.trans HE0.out) hown HSP.out hkept hmv
          case measure => simp [intOf]; omega
        · have HE0 := Lib.hid ho
          clear ho
          go_wp2_with (first
            | (go_at_call 28; refine (gap_yes _ _ HG.out).mono ?_; rintro e w' ⟨rfl, rfl⟩)
            | (go_at_call 25; refine (end_word _ base K lim v' o false HSP2.out HE0.out (by omega)).mono ?_; rintro e w1 ⟨v2, B, rfl, hB, hB1, hS1, hv2, hk1⟩; have HB := Lib.hid hB1; have hown1 := hown.spl HSP2.out hk1; have hs1 := Nat.le_trans hkept.size hk1.size; have HS1 := Lib.hid hS1; clear hB1 hS1)
            | (at_builtin; refine wpList_append_lies _ rfl (.tmp 36) (.tmp 38) 22 rfl w.heap.size 9 j0 (.string ⟨#[]⟩) 1 16 Try.underlying22 hj hy0 hy1 hy2 rfl (by decide) _ _ (scells N) rfl hown1 ⟨B, 0, none⟩ 1 1 [tx o] rfl rfl (World.news_of_block HB.out) (by intro u hu; simp at hu; subst hu; rfl) (by decide) (by unfold maxLen; omega) (by omega) hs1 _ rfl ?_; intro g3 cap3 w2 hown3 hgr3 hat3 hlt3))
          go_roundw
          case rel => exact feedRel_gap1 hlt HG.out HFT.out HE.out (by rw [← HO.out]; exact HE0.out) hown1 HS1.out hv2 hkept hmv hk1 (by rw [← HO.out]; exact hown3) hgr3
          case measure => simp [intOf]; omega
    · go_wp2
      go_ret2
      have hkl : l.take k = l := List.take_of_length_le (by omega)
      rw [hkl] at HFT HE HSP
      exact ⟨_, N, true, v', _, rfl, .inl ⟨rfl, HFT.out, HE.out, rfl⟩, hown, HSP.out, hkept, hmv⟩
theorem Spl.below {w w' : World} {base K lim B : Nat} {v : Value} {o : List UInt8} {b : Bool} (h : Spl w base K lim v o b) (hb : Below B w w') (hB : w.heap.size ≤ B) : Spl w' base K lim v o b :=
  h.kept fun k hk => hb.block k (Nat.lt_of_lt_of_le (h.mine_lt k hk) hB)
theorem new_bytes_ne {w : World} {base K lim : Nat} {v x : Value} {o : List UInt8} {b : Bool} (h : Spl w base K lim v o b) (hx : x.ownBlock = some w.heap.size) : x.ownBlock ≠ v.ownBlock := by
  intro e
  have := (ownB.lt h.2.2 w.heap.size (by rw [← e]; exact hx)).2
  omega
/-- What End answers: the open word, if there is one. -/
def EndRet (w : World) (base K lim : Nat) (v : Value) (o : List UInt8) (b : Bool) (e : Ending) (w' : World) : Prop :=
  ∃ r v', e = .returned r ∧ ownS w' w.heap.size r (endL o) ∧ Spl w' base K lim v' [] b ∧ v'.ownBlock = v.ownBlock ∧ Kept (mine K v) w w'
theorem end_any (w : World) (base K lim : Nat) (v : Value) (o : List UInt8) (b : Bool) (h : Spl w base K lim v o b) (hl : o.length ≤ 1048576) :
    Calls Try.prog 25 #[.pointer (some ⟨K, 0, none⟩)] w fun e w' => EndRet w base K lim v o b e w' := by
  by_cases ho : o = []
  · subst ho
    refine (end_none w base K lim v b h).mono ?_
    rintro e w' ⟨rfl, rfl⟩
    exact ⟨_, v, rfl, World.ownsRow_nil _ _ _ _, h, rfl, Kept.refl _ _⟩
  · refine (end_word w base K lim v o b h ho hl).mono ?_
    rintro e w' ⟨v', B, rfl, hB, hB1, hS, hv, hk⟩
    refine ⟨_, v', rfl, ?_, hS, hv, hk⟩
    have e1 : endL o = [o] := by simp [endL, ho]
    rw [e1]
    exact ⟨rfl, .inr ⟨B, 1, #[tx o], rfl, hB, hB1, Nat.le_refl _, by unfold maxLen; omega, rfl, rfl⟩⟩
/-- Feed, where no word gets too long. -/
theorem feed_fits (x : Value) (w : World) (base K lim : Nat) (v : Value) (h l : List UInt8) (N : List (List UInt8)) (hS : Spl w base K lim v (opn h) false) (hf : fits lim (h ++ l)) (hN : ended (h ++ l) = ended h ++ N) (hx : bytesAt w x l) (hxv : x.ownBlock ≠ v.ownBlock) (hlen : h.length + l.length ≤ 1048576) :
    Calls Try.prog 26 #[.pointer (some ⟨K, 0, none⟩), x] w fun e w' => ∃ r v', e = .returned (.tuple #[r, .bool true]) ∧ ownS w' w.heap.size r N ∧ Spl w' base K lim v' (opn (h ++ l)) false ∧ Kept (mine K v) w w' ∧ Moved v v' w.heap.size := by
  refine (feed_any x w base K lim v h l hS (fits_append hf) hx hxv hlen).mono ?_
  rintro e w3 ⟨r, N', b, v3, o, rfl, hres, hown3, hS3, hk3, hm3⟩
  rcases hres with ⟨rfl, _, h3, rfl⟩ | ⟨_, _, k, hk, _⟩
  · have : N' = N := List.append_cancel_left (h3.symm.trans hN)
    subst this
    exact ⟨r, v3, rfl, hown3, hS3, hk3, hm3⟩
  · exact absurd hf (longAt_not hk)
theorem ended_ext (h l : List UInt8) : ∃ N, ended (h ++ l) = ended h ++ N := by
  induction l using snoc_ind with
  | h0 => exact ⟨[], by simp⟩
  | h1 l c ih =>
    obtain ⟨N, hN⟩ := ih
    rw [← List.append_assoc]
    cases hc : gapB c
    · exact ⟨N, by rw [ended_more hc, hN]⟩
    · exact ⟨N ++ endL (opn (h ++ l)), by rw [ended_gap hc, hN, List.append_assoc]⟩
theorem Spl.row {w w1 : World} {base K lim g n : Nat} {v : Value} {o : List UInt8} {b : Bool} (h : Spl w base K lim v o b) (hr : rowOk w g n) (hv : some g ≠ v.ownBlock) (hk : Kept (fun k => k = g) w w1) : Spl w1 base K lim v o b := by
  refine h.kept fun i hi => hk.block i (h.mine_lt i hi) ?_
  rintro rfl
  rcases hi with rfl | hi
  · obtain ⟨cs2, fr, hc2, _⟩ := hr
    rw [h.2.1] at hc2; cases hc2
  · exact hv hi
theorem row_feed {wo w3 w4 : World} {base K lim n : Nat} {v : Value} {o : List UInt8} {b : Bool} (h : Spl wo base K lim v o b) (hr : rowOk w3 wo.heap.size n) (hz : w3.heap.size = wo.heap.size + 1) (hk : Kept (mine K v) w3 w4) : rowOk w4 wo.heap.size n :=
  hr.kept (hk.block _ (by omega) (fun hm => by have := h.mine_lt _ hm; omega))
theorem long_ex {lim : Nat} {l : List UInt8} (h : ¬ fits lim l) : ∃ k, longAt lim l k := by
  induction l using snoc_ind with
  | h0 => exact absurd (fits_nil lim) h
  | h1 l c ih =>
    by_cases hl : fits lim l
    · refine ⟨l.length, by simp, ?_, ?_⟩
      · rw [List.take_append_of_le_length (Nat.le_refl _), List.take_of_length_le (Nat.le_refl _)]; exact hl
      · rw [List.take_of_length_le (by simp)]; exact h
    · obtain ⟨k, hk⟩ := ih hl
      exact ⟨k, longAt_append hk⟩
theorem long_ge {lim : Nat} {h l : List UInt8} {k : Nat} (hf : fits lim h) (hk : longAt lim (h ++ l) k) : h.length ≤ k := by
  by_cases hlt : h.length ≤ k
  · exact hlt
  · exfalso
    refine hk.2.2 ?_
    rw [List.take_append_of_le_length (by omega)]
    exact fits_append (b := h.drop (k + 1)) (by rw [List.take_append_drop]; exact hf)
theorem feed_over (x : Value) (w : World) (base K lim k : Nat) (v : Value) (h l : List UInt8) (N : List (List UInt8)) (hS : Spl w base K lim v (opn h) false) (hf : fits lim h) (hL : longAt lim (h ++ l) k) (hN : ended ((h ++ l).take k) = ended h ++ N) (hx : bytesAt w x l) (hxv : x.ownBlock ≠ v.ownBlock) (hlen : h.length + l.length ≤ 1048576) :
    Calls Try.prog 26 #[.pointer (some ⟨K, 0, none⟩), x] w fun e w' => ∃ r v', e = .returned (.tuple #[r, .bool false]) ∧ ownS w' w.heap.size r N ∧ Spl w' base K lim v' [] true ∧ Kept (mine K v) w w' ∧ Moved v v' w.heap.size := by
  refine (feed_any x w base K lim v h l hS hf hx hxv hlen).mono ?_
  rintro e w3 ⟨r, N', b, v3, o, rfl, hres, hown3, hS3, hk3, hm3⟩
  rcases hres with ⟨_, hf2, _⟩ | ⟨rfl, rfl, k', hk', _, h3⟩
  · exact absurd hf2 (longAt_not hL)
  · rw [longAt_uniq hk' hL] at h3
    have : N' = N := List.append_cancel_left (h3.symm.trans hN)
    subst this
    exact ⟨r, v3, rfl, hown3, hS3, hk3, hm3⟩
theorem open_as (w : World) (base K lim n : Nat) (v : Value) (o : List UInt8) (b : Bool) (h : Spl w base K lim v o b) (hn : n = o.length) :
    Calls Try.prog 27 #[.pointer (some ⟨K, 0, none⟩)] w fun e w' => e = .returned (.int .i64 (n : Int)) ∧ w = w' := by
  subst hn; exact open_any w base K lim v o b h
end Go.Proofs.Ytfajhjppbecjaaa
