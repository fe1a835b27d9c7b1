/- Texts in one: Mrg2, Gone, Doc, Run, Sum. -/
import Derived.Test.YtnmacalbbmeedaaGreatQ18
/- A sequence merged. -/
namespace Go.Proofs.YtnmacalbbmeedaaGreat
open Go.RowKit Go.Maps

def MRel (w2 : World) (g b : Nat) (X Y : List Int) (p : Int × Int) (s : Int) (tv mv wv kv : Value) (wr : World) : Prop :=
  ∃ (k m n : Nat) (M : List Int) (f : Int × Int → Int) (ws : Bool), kv = .int .i64 (k : Int) ∧ mv = .slice (some ⟨g, 0, none⟩) m (X.length + Y.length) ∧ tv = .int .i64 (n : Int) ∧ wv = .bool ws ∧ M.length = m ∧
    MInv X p s k M n f ws ∧ St w2 g b (X ++ Y) M (3 * k) f wr
set_option maxRecDepth 100000 in
theorem mrel_of {w2 wr : World} {g b k m n : Nat} {X Y M : List Int} {p : Int × Int} {s : Int} {f : Int × Int → Int} {ws : Bool} {N : Nat} {kz nz : Int} (hm : M.length = m) (hi : MInv X p s k M n f ws) (hs : St w2 g b (X ++ Y) M N f wr) (hN : N ≤ 3 * k) (hk : kz = (k : Int)) (hn : nz = (n : Int)) :
    MRel w2 g b X Y p s (.int .i64 nz) (.slice (some ⟨g, 0, none⟩) m (X.length + Y.length)) (.bool ws) (.int .i64 kz) wr := by
  subst hk
  subst hn
  exact ⟨k, m, n, M, f, ws, rfl, rfl, rfl, rfl, hm, hi, hs.mono hN⟩
set_option maxRecDepth 100000 in
theorem new_cell (u : World) (t : Int) : (u.alloc (.cells #[.int .i64 t] 3)).cell? ⟨u.heap.size, 0, none⟩ = some (.int .i64 t) := by simp
set_option maxRecDepth 100000 in
theorem merge_fin {w w2 wr w5 : World} {K g b Bp m n : Nat} {X Y M : List Int} {p q s : Int} {f : Int × Int → Int} {ws : Bool} {v : Value} {L : List Chg} (E : MBase w2 K g b Bp X Y p q) (hst : St w2 g b (X ++ Y) M (3 * X.length) f wr) (hm : M.length = m) (hi : MInv X (p, q) s X.length M n f ws)
    (hb2 : Below w.heap.size w w2) (hb : w.heap.size ≤ b) (hK : K < w.heap.size) (hb5 : Below (wr.setCell ⟨K, 0, none⟩ (.slice (some ⟨g, 0, none⟩) m (X.length + Y.length))).heap.size (wr.setCell ⟨K, 0, none⟩ (.slice (some ⟨g, 0, none⟩) m (X.length + Y.length))) w5)
    (ho : ownE chgE w5 (wr.setCell ⟨K, 0, none⟩ (.slice (some ⟨g, 0, none⟩) m (X.length + Y.length))).heap.size v L) (hc : ChangesOf f L) (hl : L.length ≤ 3 * X.length) (hs : -9223372036854775808 ≤ s ∧ s ≤ 9223372036854775807) :
    ∃ v' L' Y', Ending.returned (.tuple #[.int .i64 (n : Int), v]) = Ending.returned (.tuple #[.int .i64 (timesL (p, q) X : Int), v']) ∧ SeqO w5 K g (mergeL (p, q) s X) Y' ∧ ownE chgE w5 w.heap.size v' L' ∧
      ChangesOf (fun r => cntP (mergeL (p, q) s X) r - cntP X r) L' ∧ L'.length ≤ 3 * X.length ∧ Kept (fun j => j = g ∨ j = K) w w5 := by
  obtain ⟨r1, r2, r3⟩ := minv_end hi
  have hbox : wr.heap[K]? = some (.cells #[.slice (some ⟨g, 0, none⟩) X.length (X.length + Y.length)] 161 (0, 0)) := (hst.kept.block K E.seq.ltK (by have := E.seq.apart; have := E.nKb; omega)).trans E.seq.box
  have hss : (wr.setCell ⟨K, 0, none⟩ (.slice (some ⟨g, 0, none⟩) m (X.length + Y.length))).heap.size = wr.heap.size := by simp [World.setCell]
  have hsz := hi.size
  have hw2 := hb2.size
  have hw3 := hst.kept.size
  have hgl := hst.row.lt
  refine ⟨v, L, (X ++ Y).drop M.length, by rw [r2], ⟨?_, ?_, ?_, ?_⟩, ho.mono (by omega), ?_, hl, ?_⟩
  · rw [hb5.block K (by omega), heap_setCell_at hbox, ← r1, ← hm]
    simp
    omega
  · rw [← r1]
    exact hst.row.kept ((hb5.block g (by omega)).trans (Below.heap_setCell _ _ _ _ (fun e => E.seq.apart e.symm)))
  · intro x hx
    rcases mergeL_mem hx with e | e
    · exact E.seq.fits x e
    · rw [e]; exact hs
  · have := E.seq.few
    rw [← r1]; simp; omega
  · have e : (fun r => cntP (mergeL (p, q) s X) r - cntP X r) = f := funext fun r => (r3 r).symm
    rw [e]; exact hc
  · have k1 : Kept (fun j => j = g ∨ j = K) w wr := (Kept.of_below (S := fun j => j = g ∨ j = K) hb2 (Nat.le_refl _)).trans hst.kept (fun i hi e => by rcases e with e | e; exact .inl e; omega)
    have k2 := k1.setCell ⟨K, 0, none⟩ (.slice (some ⟨g, 0, none⟩) m (X.length + Y.length)) (fun _ => .inr rfl)
    exact k2.trans (Kept.of_below (S := fun _ => False) hb5 (Nat.le_refl _)) (fun _ _ h => h.elim)
set_option maxRecDepth 100000 in
set_option maxHeartbeats 8000000 in
theorem merge_any (K g : Nat) (X Y : List Int) (p q s : Int) (w : World) (h : SeqO w K g X Y) (hp : FitsPr (p, q)) (hs : -9223372036854775808 ≤ s ∧ s ≤ 9223372036854775807) :
    Calls Tryz.prog 82 #[.pointer (some ⟨K, 0, none⟩), .agg #[.int .i64 p, .int .i64 q], .int .i64 s] w fun e w' => ∃ v L Y', e = .returned (.tuple #[.int .i64 (timesL (p, q) X : Int), v]) ∧ SeqO w' K g (mergeL (p, q) s X) Y' ∧ ownE chgE w' w.heap.size v L ∧
      ChangesOf (fun r => cntP (mergeL (p, q) s X) r - cntP X r) L ∧ L.length ≤ 3 * X.length ∧ Kept (fun j => j = g ∨ j = K) w w' := by
  obtain ⟨w2, hw2⟩ : ∃ w2, w2 = (w.alloc (.cells #[.int .i64 p, .int .i64 q] 77)).alloc (.map #[] 0) := ⟨_, rfl⟩
  have hltK := h.ltK
  have hltg := h.ltg
  have b02 : Below w.heap.size w w2 := by rw [hw2]; exact ((Below.refl _ w).alloc (Nat.le_refl _) _).alloc (by rw [World.size_alloc]; omega) _
  have hsz2 : w2.heap.size = w.heap.size + 1 + 1 := by rw [hw2]; simp
  have hE : MBase w2 K g (w.heap.size + 1) w.heap.size X Y p q := by
    refine ⟨h.below b02, ?_, ?_, by omega, by omega, by omega, by omega, by omega, by omega⟩ <;> (rw [hw2]; simp)
  have hM : PMap w2 (w.heap.size + 1) 0 (fun _ => 0) := by
    have := pmap_made (w.alloc (.cells #[.int .i64 p, .int .i64 q] 77))
    rw [World.size_alloc] at this
    rw [hw2]; exact this
  have hS : St w2 g (w.heap.size + 1) (X ++ Y) [] (3 * 0) (fun _ => 0) w2 := ⟨by simpa using hE.seq.row, hM, Kept.refl _ _⟩
  have hf := h.few
  have HFX := Lib.hid h.fits
  have c0 := hE.seq.cell
  have HE := Lib.hid hE; have HS0 := Lib.hid hS; have HB02 := Lib.hid b02; have HSZ := Lib.hid hsz2
  have hhn := fun n c w => head_none g n c w
  have hmm := @run_makeMap Tryz.prog
  have hw' := hw2.symm
  have HLT : Hid (K < w.heap.size ∧ g < w.heap.size ∧ K ≠ g) := Lib.hid ⟨hltK, hltg, h.apart⟩
  clear h hE hM hS hw2 hltK hltg b02 hsz2
  obtain ⟨b, hb⟩ : ∃ b, w.heap.size + 1 = b := ⟨_, rfl⟩
  rw [hb] at HE HS0
  have HBB := Lib.hid hb
  go_enter Tryz.func82, Tryz.ntmps82
  go_wp2_with fail
  go_quiet (fail)
  go_wp2
  clear hhn hmm hw' hb
  go_loopw [8, 11, 12, 13] (fun tv mv wv kv wr => MRel w2 g b X Y (p, q) s tv mv wv kv wr) (fun _ _ _ kv _ => X.length - (intOf kv).toNat)
  case atStart => exact ⟨0, 0, 0, [], _, false, rfl, rfl, rfl, rfl, rfl, minv_start X (p, q) s, (show St w2 g b (X ++ Y) [] (3 * 0) (fun _ => 0) (w2.drewN nq) from ⟨HS0.out.row, HS0.out.map, HS0.out.kept.drewN _⟩)⟩
  case round =>
    obtain ⟨k, m, n, M, f, ws, rfl, rfl, rfl, rfl, hm, hi, hst⟩ := hrel
    have HM := Lib.hid hm; have HI := Lib.hid hi; have HST := Lib.hid hst
    have hle := hi.le
    have hsz := hi.size
    clear c0 hm hi hst
    by_cases hgo : k < X.length
    · have hml : M.length ≤ k := by omega
      have cK := HST.out.cell hml hgo
      have hrl : m + 1 ≤ X.length + Y.length := by have := HM.out; omega
      have hml2 : M.length < X.length + Y.length := by omega
      have hrow : X.length ≤ (M ++ (X ++ Y).drop M.length).length := by simp; omega
      obtain ⟨bx0, bx1⟩ := HST.out.box HE.out
      have fK := HFX.out X[k] (List.getElem_mem _)
      have HRB : Hid (g ≠ b) := Lib.hid HE.out.ngb
      by_cases hmg : ∃ h2 : k + 1 < X.length, X[k] = p ∧ X[k + 1] = q
      · obtain ⟨h2, e0, e1⟩ := hmg
        have HE0 := Lib.hid e0; have HE1 := Lib.hid e1; have H2 := Lib.hid h2
        obtain ⟨g0, g1⟩ := St.get (Y := Y) hml hgo
        obtain ⟨g2, g3⟩ := St.get (M := M) (Y := Y) (k := k + 1) (by omega) h2
        have cS := stands_yes g X.length (X.length + Y.length) k (M ++ (X ++ Y).drop M.length) p q wr HST.out.row hrow (by omega) h2 (g1.trans e0) (g3.trans e1)
        clear g0 g1 g2 g3 e0 e1
        by_cases hk0 : k = 0
        · subst hk0
          go_wp2_with fail
          refine cS.mono ?_
          rintro e u1 ⟨rfl, hb1⟩
          have HS1 := Lib.hid (HST.out.below hb1)
          clear hb1 cS cK bx0 bx1
          obtain ⟨bx0, bx1⟩ := HS1.out.box HE.out
          have cA := padd_any b (3 * 0) f p q (-1) u1 HS1.out.map hp (by omega) (by omega)
          go_wp2_with fail
          refine cA.mono ?_
          rintro e u2 ⟨rfl, hm2, hk2⟩
          have HS2 := Lib.hid (HS1.out.add hm2 hk2 HRB.out)
          clear hm2 hk2 cA bx0 bx1
          have HSA := Lib.hid (HS2.out.below ((Below.refl u2.heap.size u2).alloc (Nat.le_refl _) (.cells #[.int .i64 s] 3)))
          have HNC := Lib.hid (new_cell u2 s)
          go_wp2_with (at_builtin; refine wpList_append_in rfl (.tmp 79) (.tmp 81) rfl g m _ u2.heap.size s _ rfl rfl HSA.out.row hrl (by simp; have := HM.out; omega) HNC.out ?_)
          have HF := Lib.hid (HSA.out.app s HM.out hml2 HRB.out)
          go_roundw
          case rel => exact mrel_of (by simp [HM.out]) (mrg_A HI.out H2.out HE0.out HE1.out) HF.out (by omega) (by simp) (by simp)
          case measure => simp [intOf]; omega
        · obtain ⟨j, rfl⟩ : ∃ j, k = j + 1 := ⟨k - 1, by omega⟩
          obtain ⟨m', hm'⟩ : ∃ m', M.length = m' + 1 := ⟨M.length - 1, by have := HI.out.emp (by omega); omega⟩
          obtain rfl : m = m' + 1 := by have := HM.out; omega
          go_wp2_with fail
          refine cS.mono ?_
          rintro e u1 ⟨rfl, hb1⟩
          have HS1 := Lib.hid (HST.out.below hb1)
          clear hb1 cS cK bx0 bx1
          obtain ⟨bx0, bx1⟩ := HS1.out.box HE.out
          have cA := padd_any b (3 * (j + 1)) f p q (-1) u1 HS1.out.map hp (by omega) (by omega)
          go_wp2_with fail
          refine cA.mono ?_
          rintro e u2 ⟨rfl, hm2, hk2⟩
          have HS2 := Lib.hid (HS1.out.add hm2 hk2 HRB.out)
          clear hm2 hk2 cA bx0 bx1
          have cA := HS2.out.prev HI.out
          have cB := HS2.out.cell hml hgo
          have fA := HFX.out X[j] (List.getElem_mem _)
          have fM : -9223372036854775808 ≤ M[m'] ∧ M[m'] ≤ 9223372036854775807 := by
            rcases minv_mem HI.out (List.getElem_mem (by omega : m' < M.length)) with e | e
            · exact HFX.out _ e
            · rw [e]; exact hs
          have cAdd := padd_any b (3 * (j + 1) + 1) _ X[j] X[j + 1] (-1) u2.drew HS2.out.map ⟨fA, fK⟩ (by omega) (by omega)
          have hs1 : IntKind.i64.wrap ((j : Int) + 1 - 1) = (j : Int) := by rw [IntWalk.i64_in _ (by omega)]; omega
          have hs2 : IntKind.i64.wrap (j : Int) = (j : Int) := IntWalk.i64_in _ (by omega)
          have hs3 : IntKind.i64.wrap ((m' : Int) + 1 - 1) = (m' : Int) := by rw [IntWalk.i64_in _ (by omega)]; omega
          have hs4 : IntKind.i64.wrap (m' : Int) = (m' : Int) := IntWalk.i64_in _ (by omega)
          have i0 : (0 : Int) ≤ (j : Int) := by omega
          have i1 : (j : Int) < (X.length : Int) := by omega
          have i2 : (0 : Int) ≤ (j : Int) + 1 := by omega
          have i3 : (j : Int) + 1 < (X.length : Int) := by omega
          have i4 : ((j : Int) + 1).toNat = j + 1 := by omega
          have i5 : (0 : Int) < (j : Int) + 1 := by omega
          have i6 : (0 : Int) ≤ (m' : Int) := by omega
          have i7 : (m' : Int) < (m' : Int) + 1 := by omega
          cases ws with
          | true =>
            go_wp2_with fail
            go_region_held3 (fun w' => w'.cell? ⟨g, j, none⟩ = some (.int .i64 X[j]) ∧ w'.cell? ⟨g, j + 1, none⟩ = some (.int .i64 X[j + 1])) (first | exact ⟨cA, cB⟩ | exact ⟨dA, dB⟩) (first | (go_at_call 89; refine cAdd.mono ?_; rintro e u3 ⟨rfl, hm3, hk3⟩; have HS3 := Lib.hid (HS2.out.add hm3 (Kept.undrew hk3) HRB.out); clear hm3 hk3; have dA := HS3.out.prev HI.out; have dB := HS3.out.cell hml hgo))
            have cL := HS3.out.lastM hm'
            have cA2 := padd_any b (3 * (j + 1) + 1 + 1) _ (M[m']) s 1 u3 HS3.out.map ⟨fM, hs⟩ (by omega) (by omega)
            go_wp2_with fail
            refine cA2.mono ?_
            rintro e u4 ⟨rfl, hm4, hk4⟩
            have HS4 := Lib.hid (HS3.out.add hm4 hk4 HRB.out)
            clear hm4 hk4 cA2 cL cA cB dA dB
            have HSA := Lib.hid (HS4.out.below ((Below.refl u4.heap.size u4).alloc (Nat.le_refl _) (.cells #[.int .i64 s] 3)))
            have HNC := Lib.hid (new_cell u4 (s))
            go_wp2_with (at_builtin; refine wpList_append_in rfl (.tmp 79) (.tmp 81) rfl g (m' + 1) _ u4.heap.size (s) _ rfl rfl HSA.out.row hrl (by simp; omega) HNC.out ?_)
            have HF := Lib.hid (HSA.out.app (s) hm' hml2 HRB.out)
            go_roundw
            case rel => exact mrel_of (by simp [hm']) (mrg_B HI.out hm' H2.out HE0.out HE1.out) HF.out (by omega) (by simp) (by simp)
            case measure => simp [intOf]; omega
          | false =>
            go_wp2_with fail
            go_region_held3 (fun w' => w'.cell? ⟨g, j, none⟩ = some (.int .i64 X[j]) ∧ w'.cell? ⟨g, j + 1, none⟩ = some (.int .i64 X[j + 1])) (first | exact ⟨cA, cB⟩ | exact ⟨dA, dB⟩) (first | (go_at_call 89; refine cAdd.mono ?_; rintro e u3 ⟨rfl, hm3, hk3⟩; have HS3 := Lib.hid (HS2.out.add hm3 (Kept.undrew hk3) HRB.out); clear hm3 hk3; have dA := HS3.out.prev HI.out; have dB := HS3.out.cell hml hgo))
            have cL := HS3.out.lastM hm'
            have cA2 := padd_any b (3 * (j + 1) + 1 + 1) _ (M[m']) s 1 u3 HS3.out.map ⟨fM, hs⟩ (by omega) (by omega)
            go_wp2_with fail
            refine cA2.mono ?_
            rintro e u4 ⟨rfl, hm4, hk4⟩
            have HS4 := Lib.hid (HS3.out.add hm4 hk4 HRB.out)
            clear hm4 hk4 cA2 cL cA cB dA dB
            have HSA := Lib.hid (HS4.out.below ((Below.refl u4.heap.size u4).alloc (Nat.le_refl _) (.cells #[.int .i64 s] 3)))
            have HNC := Lib.hid (new_cell u4 (s))
            go_wp2_with (at_builtin; refine wpList_append_in rfl (.tmp 79) (.tmp 81) rfl g (m' + 1) _ u4.heap.size (s) _ rfl rfl HSA.out.row hrl (by simp; omega) HNC.out ?_)
            have HF := Lib.hid (HSA.out.app (s) hm' hml2 HRB.out)
            go_roundw
            case rel => exact mrel_of (by simp [hm']) (mrg_B HI.out hm' H2.out HE0.out HE1.out) HF.out (by omega) (by simp) (by simp)
            case measure => simp [intOf]; omega
      · have hno : ∀ h2 : k + 1 < X.length, ¬ (X[k] = p ∧ X[k + 1] = q) := fun h2 e => hmg ⟨h2, e⟩
        have HNO := Lib.hid hno
        have hno2 : ∀ h2 : k + 1 < X.length, ¬ ((M ++ (X ++ Y).drop M.length)[k]'(by omega) = p ∧ (M ++ (X ++ Y).drop M.length)[k + 1]'(by omega) = q) := by
          intro h2
          obtain ⟨g0, g1⟩ := St.get (Y := Y) hml hgo
          obtain ⟨g2, g3⟩ := St.get (M := M) (Y := Y) (k := k + 1) (by omega) h2
          rw [g1, g3]
          exact hno h2
        have cS := stands_no g X.length (X.length + Y.length) k (M ++ (X ++ Y).drop M.length) p q wr HST.out.row hrow (by omega) hgo hno2
        clear hno hno2 hmg
        by_cases hk0 : k = 0
        · subst hk0
          go_wp2_with fail
          refine cS.mono ?_
          rintro e u1 ⟨rfl, hb1⟩
          have HS1 := Lib.hid (HST.out.below hb1)
          clear hb1 cS bx0 bx1
          have HSA := Lib.hid (HS1.out.below ((Below.refl u1.heap.size u1).alloc (Nat.le_refl _) (.cells #[.int .i64 X[0]] 3)))
          have HNC := Lib.hid (new_cell u1 X[0])
          go_wp2_with (at_builtin; refine wpList_append_in rfl (.tmp 79) (.tmp 81) rfl g m _ u1.heap.size X[0] _ rfl rfl HSA.out.row hrl (by simp; have := HM.out; omega) HNC.out ?_)
          have HF := Lib.hid (HSA.out.app X[0] HM.out hml2 HRB.out)
          go_roundw
          case rel => exact mrel_of (by simp [HM.out]) (mrg_C HI.out hgo HNO.out) HF.out (by omega) (by simp) (by simp)
          case measure => simp [intOf]; omega
        · obtain ⟨j, rfl⟩ : ∃ j, k = j + 1 := ⟨k - 1, by omega⟩
          obtain ⟨m', hm'⟩ : ∃ m', M.length = m' + 1 := ⟨M.length - 1, by have := HI.out.emp (by omega); omega⟩
          obtain rfl : m = m' + 1 := by have := HM.out; omega
          cases ws with
          | true =>
            go_wp2_with fail
            refine cS.mono ?_
            rintro e u1 ⟨rfl, hb1⟩
            have HS1 := Lib.hid (HST.out.below hb1)
            clear hb1 cS bx0 bx1
            have cA := HS1.out.prev HI.out
            have cB := HS1.out.cell hml hgo
            have fA := HFX.out X[j] (List.getElem_mem _)
            have fM : -9223372036854775808 ≤ M[m'] ∧ M[m'] ≤ 9223372036854775807 := by
              rcases minv_mem HI.out (List.getElem_mem (by omega : m' < M.length)) with e | e
              · exact HFX.out _ e
              · rw [e]; exact hs
            have cAdd := padd_any b (3 * (j + 1)) _ X[j] X[j + 1] (-1) u1.drew HS1.out.map ⟨fA, fK⟩ (by omega) (by omega)
            have hs1 : IntKind.i64.wrap ((j : Int) + 1 - 1) = (j : Int) := by rw [IntWalk.i64_in _ (by omega)]; omega
            have hs2 : IntKind.i64.wrap (j : Int) = (j : Int) := IntWalk.i64_in _ (by omega)
            have hs3 : IntKind.i64.wrap ((m' : Int) + 1 - 1) = (m' : Int) := by rw [IntWalk.i64_in _ (by omega)]; omega
            have hs4 : IntKind.i64.wrap (m' : Int) = (m' : Int) := IntWalk.i64_in _ (by omega)
            have i0 : (0 : Int) ≤ (j : Int) := by omega
            have i1 : (j : Int) < (X.length : Int) := by omega
            have i2 : (0 : Int) ≤ (j : Int) + 1 := by omega
            have i3 : (j : Int) + 1 < (X.length : Int) := by omega
            have i4 : ((j : Int) + 1).toNat = j + 1 := by omega
            have i5 : (0 : Int) < (j : Int) + 1 := by omega
            have i6 : (0 : Int) ≤ (m' : Int) := by omega
            have i7 : (m' : Int) < (m' : Int) + 1 := by omega
            go_wp2_with fail
            go_region_held3 (fun w' => w'.cell? ⟨g, j, none⟩ = some (.int .i64 X[j]) ∧ w'.cell? ⟨g, j + 1, none⟩ = some (.int .i64 X[j + 1])) (first | exact ⟨cA, cB⟩ | exact ⟨dA, dB⟩) (first | (go_at_call 89; refine cAdd.mono ?_; rintro e u3 ⟨rfl, hm3, hk3⟩; have HS3 := Lib.hid (HS1.out.add hm3 (Kept.undrew hk3) HRB.out); clear hm3 hk3; have dA := HS3.out.prev HI.out; have dB := HS3.out.cell hml hgo))
            have cL := HS3.out.lastM hm'
            have cA2 := padd_any b (3 * (j + 1) + 1) _ (M[m']) X[j + 1] 1 u3 HS3.out.map ⟨fM, fK⟩ (by omega) (by omega)
            go_wp2_with fail
            refine cA2.mono ?_
            rintro e u4 ⟨rfl, hm4, hk4⟩
            have HS4 := Lib.hid (HS3.out.add hm4 hk4 HRB.out)
            clear hm4 hk4 cA2 cL cA cB dA dB
            have HSA := Lib.hid (HS4.out.below ((Below.refl u4.heap.size u4).alloc (Nat.le_refl _) (.cells #[.int .i64 X[j + 1]] 3)))
            have HNC := Lib.hid (new_cell u4 (X[j + 1]))
            go_wp2_with (at_builtin; refine wpList_append_in rfl (.tmp 79) (.tmp 81) rfl g (m' + 1) _ u4.heap.size (X[j + 1]) _ rfl rfl HSA.out.row hrl (by simp; omega) HNC.out ?_)
            have HF := Lib.hid (HSA.out.app (X[j + 1]) hm' hml2 HRB.out)
            go_roundw
            case rel => exact mrel_of (by simp [hm']) (mrg_D HI.out hm' hgo HNO.out) HF.out (by omega) (by simp) (by simp)
            case measure => simp [intOf]; omega
          | false =>
            go_wp2_with fail
            refine cS.mono ?_
            rintro e u1 ⟨rfl, hb1⟩
            have HS1 := Lib.hid (HST.out.below hb1)
            clear hb1 cS bx0 bx1
            have hs1 : IntKind.i64.wrap ((j : Int) + 1 - 1) = (j : Int) := by rw [IntWalk.i64_in _ (by omega)]; omega
            have hs2 : IntKind.i64.wrap (j : Int) = (j : Int) := IntWalk.i64_in _ (by omega)
            have hs3 : IntKind.i64.wrap ((m' : Int) + 1 - 1) = (m' : Int) := by rw [IntWalk.i64_in _ (by omega)]; omega
            have hs4 : IntKind.i64.wrap (m' : Int) = (m' : Int) := IntWalk.i64_in _ (by omega)
            have i0 : (0 : Int) ≤ (j : Int) := by omega
            have i1 : (j : Int) < (X.length : Int) := by omega
            have i2 : (0 : Int) ≤ (j : Int) + 1 := by omega
            have i3 : (j : Int) + 1 < (X.length : Int) := by omega
            have i4 : ((j : Int) + 1).toNat = j + 1 := by omega
            have i5 : (0 : Int) < (j : Int) + 1 := by omega
            have i6 : (0 : Int) ≤ (m' : Int) := by omega
            have i7 : (m' : Int) < (m' : Int) + 1 := by omega
            have HSA := Lib.hid (HS1.out.below ((Below.refl u1.heap.size u1).alloc (Nat.le_refl _) (.cells #[.int .i64 X[j + 1]] 3)))
            have HNC := Lib.hid (new_cell u1 X[j + 1])
            go_wp2_with (at_builtin; refine wpList_append_in rfl (.tmp 79) (.tmp 81) rfl g (m' + 1) _ u1.heap.size X[j + 1] _ rfl rfl HSA.out.row hrl (by simp; omega) HNC.out ?_)
            have HF := Lib.hid (HSA.out.app X[j + 1] hm' hml2 HRB.out)
            go_roundw
            case rel => exact mrel_of (by simp [hm']) (mrg_E HI.out hgo HNO.out) HF.out (by omega) (by simp) (by simp)
            case measure => simp [intOf]; omega
    · obtain rfl : k = X.length := by omega
      have cK : wr.cell? ⟨K, 0, none⟩ = some (.slice (some ⟨g, 0, none⟩) X.length (X.length + Y.length)) := (World.cell?_of_block (HST.out.kept.block K HE.out.seq.ltK (by have := HE.out.seq.apart; have := HE.out.nKb; omega))).trans HE.out.seq.cell
      have hbox : wr.heap[K]? = some (.cells #[.slice (some ⟨g, 0, none⟩) X.length (X.length + Y.length)] 161 (0, 0)) := (HST.out.kept.block K HE.out.seq.ltK (by have := HE.out.seq.apart; have := HE.out.nKb; omega)).trans HE.out.seq.box
      have fz : wr.frozen? ⟨K, 0, none⟩ = false := Lib.frozen_of_heap hbox _
      have HMAP : Hid (PMap (wr.setCell ⟨K, 0, none⟩ (.slice (some ⟨g, 0, none⟩) m (X.length + Y.length))) b (3 * X.length) f) := Lib.hid (HST.out.map.kept (Below.heap_setCell _ _ _ _ (fun e => HE.out.nKb e.symm)))
      have cR := rising_any b (3 * X.length) f _ HMAP.out (by omega)
      clear hbox
      go_wp2_with fail
      refine cR.mono ?_
      rintro e w5 ⟨v, L, rfl, ho, hc, hl, hb5⟩
      have HO := Lib.hid ho; have HC := Lib.hid hc; have HL := Lib.hid hl; have HB5 := Lib.hid hb5
      clear ho hc hl hb5 cR
      go_wp2
      go_ret2
      exact merge_fin HE.out HST.out HM.out HI.out HB02.out (by have := HBB.out; omega) HLT.out.1 HB5.out HO.out HC.out HL.out hs
end Go.Proofs.YtnmacalbbmeedaaGreat
/- What is gone behind a merge. -/
namespace Go.Proofs.YtnmacalbbmeedaaGreat
open Go.RowKit Go.Maps

/-! What is gone. -/
set_option maxRecDepth 100000 in
theorem timesL_ne {p : Int × Int} {s : Int} (h : s ≠ p.1) (Z : List Int) : timesL p (s :: Z) = timesL p Z := by
  cases Z with
  | nil => rfl
  | cons y r => rw [timesL, if_neg fun e => h e.1]
set_option maxRecDepth 100000 in
theorem mergeL_head (p : Int × Int) (s y : Int) (r : List Int) : ∃ Z, mergeL p s (y :: r) = y :: Z ∨ mergeL p s (y :: r) = s :: Z := by
  cases r with
  | nil => exact ⟨[], .inl rfl⟩
  | cons z r =>
    rw [mergeL]
    split
    · exact ⟨_, .inr rfl⟩
    · exact ⟨_, .inl rfl⟩
set_option maxRecDepth 100000 in
theorem gone_of {p : Int × Int} {s : Int} (h1 : s ≠ p.1) (h2 : s ≠ p.2) : ∀ X : List Int, timesL p (mergeL p s X) = 0
  | [] => rfl
  | [x] => rfl
  | x :: y :: r => by
    rw [mergeL]
    split
    · rw [timesL_ne h1]; exact gone_of h1 h2 r
    · rename_i hno
      have ih := gone_of h1 h2 (y :: r)
      obtain ⟨Z, e | e⟩ := mergeL_head p s y r
      · rw [e] at ih ⊢
        rw [timesL, if_neg hno]; exact ih
      · rw [e] at ih ⊢
        rw [timesL, if_neg fun k => h2 k.2]; exact ih
set_option maxRecDepth 100000 in
theorem none_of {p : Int × Int} : ∀ {X : List Int}, (∀ x ∈ X, x ≠ p.1) ∨ (∀ x ∈ X, x ≠ p.2) → timesL p X = 0
  | [], _ => rfl
  | [x], _ => rfl
  | x :: y :: r, h => by
    rw [timesL, if_neg fun e => ?_]
    · exact none_of (h.imp (fun k z hz => k z (List.mem_cons_of_mem _ hz)) (fun k z hz => k z (List.mem_cons_of_mem _ hz)))
    · rcases h with h | h
      · exact h x (by simp) e.1
      · exact h y (by simp) e.2
set_option maxRecDepth 100000 in
theorem merge_same {p : Int × Int} {s : Int} : ∀ {X : List Int}, timesL p X = 0 → mergeL p s X = X
  | [], _ => rfl
  | [x], _ => rfl
  | x :: y :: r, h => by
    rw [timesL] at h
    split at h
    · omega
    · rename_i hno
      rw [mergeL, if_neg hno, merge_same h]
set_option maxRecDepth 100000 in
theorem gone_any {p : Int × Int} {s : Int} {X : List Int} (h : ∀ x ∈ X, x ≠ s) : timesL p (mergeL p s X) = 0 := by
  by_cases h1 : s = p.1
  · have h0 : timesL p X = 0 := none_of (.inl fun x hx => h1 ▸ h x hx)
    rw [merge_same h0, h0]
  · by_cases h2 : s = p.2
    · have h0 : timesL p X = 0 := none_of (.inr fun x hx => h2 ▸ h x hx)
      rw [merge_same h0, h0]
    · exact gone_of h1 h2 X
end Go.Proofs.YtnmacalbbmeedaaGreat
/- The document's symbols; two rows of numbers are the same. -/
namespace Go.Proofs.YtnmacalbbmeedaaGreat
open Go.RowKit Go.Maps

end Go.Proofs.YtnmacalbbmeedaaGreat
/- Merges one behind another; what they spell: plain lists. -/
namespace Go.Proofs.YtnmacalbbmeedaaGreat
open Go.RowKit Go.Maps

end Go.Proofs.YtnmacalbbmeedaaGreat
/- Changes, summed: plain lists. -/
namespace Go.Proofs.YtnmacalbbmeedaaGreat
open Go.RowKit Go.Maps

def adj : List Int → List (Int × Int)
  | x :: y :: r => (x, y) :: adj (y :: r)
  | _ => []
set_option maxRecDepth 100000 in
theorem adj_len : ∀ X : List Int, (adj X).length = X.length - 1
  | [] => rfl
  | [_] => rfl
  | x :: y :: r => by have := adj_len (y :: r); simp [adj] at this ⊢; omega
set_option maxRecDepth 100000 in
theorem cnt_le : ∀ (X : List Int) (q : Int × Int), cntP X q ≤ (X.length : Int)
  | [], _ => by simp [cntP]
  | [_], _ => by simp [cntP]
  | x :: y :: r, q => by
    have := cnt_le (y :: r) q
    rw [cntP]
    simp at this ⊢
    split <;> omega
end Go.Proofs.YtnmacalbbmeedaaGreat
