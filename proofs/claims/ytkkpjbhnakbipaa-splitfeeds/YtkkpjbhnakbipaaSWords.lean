/- The contract of split.Words. -/
import Derived.Test.YtkkpjbhnakbipaaFeed
import Derived.Test.YtkkpjbhnakbipaaRefWords
namespace Go.Proofs.Ytkkpjbhnakbipaa
open Go.RowKit

theorem bytesAt_conv (w : World) (s : ByteArray) (c : Nat) (fr : Nat × Nat) : bytesAt (w.drew.alloc (.cells (bytesRow s c) 5 fr)) (.slice (some ⟨w.heap.size, 0, none⟩) s.size c) (bs s) := by
  refine ⟨w.heap.size, c, bytesRow s c, fr, ?_, heap_alloc_new w.drew _, fun j hj => ?_⟩
  · rw [size_toList]
  · have hj' : j < s.data.size := by simpa using hj
    rw [bytesRow_at s c j hj']
    simp
/-- '[]byte(s)': a new row. -/
theorem conv_bytes (w : World) (s : ByteArray) : ∃ x w', (convert 9 35 (.string s)).run Try.prog w = .ok x w' ∧ bytesAt w' x (bs s) ∧ x.ownBlock = some w.heap.size ∧ Below w.heap.size w w' ∧ w'.heap.size = w.heap.size + 1 :=
  ⟨_, _, run_bytes_of_string w 9 35 5 s Try.underlying9 Try.underlying35 Try.underlying5, bytesAt_conv w s _ _, rfl, (Below.refl _ _).drew.alloc (Nat.le_refl _) _, by rw [World.size_alloc]; rfl⟩
theorem Spl.below {w w' : World} {base K lim B : Nat} {v : Value} {o : List UInt8} {b : Bool} (h : Spl w base K lim v o b) (hb : Below B w w') (hB : w.heap.size ≤ B) : Spl w' base K lim v o b :=
  h.kept fun k hk => hb.block k (Nat.lt_of_lt_of_le (h.mine_lt k hk) hB)
theorem new_bytes_ne {w : World} {base K lim : Nat} {v x : Value} {o : List UInt8} {b : Bool} (h : Spl w base K lim v o b) (hx : x.ownBlock = some w.heap.size) : x.ownBlock ≠ v.ownBlock := by
  intro e
  have := (ownB.lt h.2.2 w.heap.size (by rw [← e]; exact hx)).2
  omega

/-- What End answers: the open word, if there is one. -/
def EndRet (w : World) (base K lim : Nat) (v : Value) (o : List UInt8) (b : Bool) (e : Ending) (w' : World) : Prop :=
  ∃ r v', e = .returned r ∧ ownS w' w.heap.size r (endL o) ∧ Spl w' base K lim v' [] b ∧ v'.ownBlock = v.ownBlock ∧ Kept (mine K v) w w'
theorem end_any (w : World) (base K lim : Nat) (v : Value) (o : List UInt8) (b : Bool) (h : Spl w base K lim v o b) (hl : o.length ≤ 1048576) :
    Calls Try.prog 19 #[.pointer (some ⟨K, 0, none⟩)] w fun e w' => EndRet w base K lim v o b e w' := by
  by_cases ho : o = []
  · subst ho
    refine (end_none w base K lim v b h).mono ?_
    rintro e w' ⟨rfl, rfl⟩
    exact ⟨_, v, rfl, World.ownsRow_nil _ _ _ _, h, rfl, Kept.refl _ _⟩
  · refine (end_word w base K lim v o b h ho hl).mono ?_
    rintro e w' ⟨v', B, rfl, hB, hB1, hS, hv, hk⟩
    refine ⟨_, v', rfl, ?_, hS, hv, hk⟩
    have e1 : endL o = [o] := by simp [endL, ho]
    rw [e1]
    exact ⟨rfl, .inr ⟨B, 1, #[tx o], rfl, hB, hB1, Nat.le_refl _, by unfold maxLen; omega, rfl, rfl⟩⟩

/-- Texts appended to texts. -/
theorem ownS.app {w2 : World} {b : Nat} {r : Value} {A B : List (List UInt8)} {n : Nat} (h : w2.ownsRow b 9 1 r (A.length + n) (scells A ++ scells B)) (hn : n = B.length) : ownS w2 b r (A ++ B) := by
  unfold ownS; rw [List.length_append, scells_append, ← hn]; exact h
theorem ownS.form {w : World} {b : Nat} {r : Value} {A : List (List UInt8)} (h : ownS w b r A) : (r = .slice none 0 0 ∧ A = []) ∨ (∃ g cap, r = .slice (some ⟨g, 0, none⟩) A.length cap ∧ b ≤ g ∧ g < w.heap.size) := by
  rcases h.2 with ⟨rfl, h0⟩ | ⟨g, cap, cur, rfl, hb, hg, _⟩
  · exact .inl ⟨rfl, List.eq_nil_of_length_eq_zero h0⟩
  · exact .inr ⟨g, cap, rfl, hb, (Array.getElem?_eq_some_iff.1 hg).1⟩
theorem ownS.src {w : World} {b g cap : Nat} {A : List (List UInt8)} (h : ownS w b (.slice (some ⟨g, 0, none⟩) A.length cap) A) : ∀ j u, (scells A)[j]? = some u → w.cell? ((⟨g, 0, none⟩ : Addr).add j) = some u := by
  intro j u hu
  rcases h.2 with ⟨h0, _⟩ | ⟨g', cap', cur, hv, hb, hg, h1, h2, h3, h4⟩
  · cases h0
  · cases hv
    have hj : j < A.length := by have := (List.getElem?_eq_some_iff.1 hu).1; simpa [scells] using this
    rw [add_zero_off, cell_of_row w g j cur 9 (0, 0) hg, ← hu, ← h4, Nat.mul_one, List.getElem?_take_of_lt hj]
    simp
/-- 'append(a, b...)' of two rows of texts: whatever b is. -/
theorem run_append_texts {w : World} {base b' : Nat} {v x : Value} {A B : List (List UInt8)} (ty : TypeId) (hA : ownS w base v A) (hB : ownS w b' x B) (hl : A.length + B.length ≤ 1048576) (hb : base ≤ w.heap.size) :
    ∃ r w', (Builtin.append_ #[24, 24] ty #[v, x]).run Try.prog w = .ok r w' ∧ ownS w' base r (A ++ B) ∧ w.grownBy w' v.ownBlock := by
  obtain ⟨j0, hj, hy0, hy1, hy2⟩ := info_parts Try.info9
  rcases hB.form with ⟨rfl, rfl⟩ | ⟨g, cap, rfl, hbg, hgw⟩
  · refine ⟨v, w, run_append_owned_none w base 24 ty 9 j0 1 Try.underlying24 hj v _ _ hA, by simpa using hA, ⟨rfl, rfl, rfl, Nat.le_refl _, fun _ _ _ => rfl⟩⟩
  · obtain ⟨r, w', hr, h2, h3, _, _⟩ := run_append_own_at (P := Try.prog) w base 24 ty 9 j0 (.string ⟨#[]⟩) 1 16 Try.underlying24 hj hy0 hy1 hy2 rfl (by decide) v A.length (scells A) hA ⟨g, 0, none⟩ B.length cap (scells B) (by simp [scells]) hB.src (scells_one B) (by unfold maxLen; omega) (by omega) hb
    exact ⟨r, w', hr, ownS.app h2 rfl, h3⟩

theorem wpList_append_texts {w : World} {ops : Array Oper} {rest : List Oper} {o : Oper} {a : Act} {Q : Exit → Act → World → Prop} (hgd : o.guard = none) (s x : Operand)
    (ho : o.op = .call { callee := .builtin .append, args := #[s, x], argTypes := #[24, 24] }) (base b' : Nat) (v y : Value) (A B : List (List UInt8)) (hs : a.eval s = v) (hx : a.eval x = y)
    (hA : ownS w base v A) (hB : ownS w b' y B) (hl : A.length + B.length ≤ 1048576) (hb : base ≤ w.heap.size)
    (h : ∀ r w', ownS w' base r (A ++ B) → w.grownBy w' v.ownBlock → wpList Try.prog ops Q rest (a.put o.dst r) w') : wpList Try.prog ops Q (o :: rest) a w := by
  refine wpList_plain hgd fun K hK => ?_
  obtain ⟨r, w', hr, h2, h3⟩ := run_append_texts o.type hA hB hl hb
  unfold Oper.wp execOp
  simp only [ho, resolve, invoke, builtin, Sem.run_bind, Sem.run_pure, Result.andThen_ok, List.map_toArray, List.map_cons, List.map_nil, hs, hx, hr]
  exact hK _ _ (h r w' h2 h3)

set_option maxHeartbeats 400000 in
theorem words_any (s : ByteArray) (w : World) (hs : s.size ≤ 1048575) :
    Calls Try.prog 9 #[.string s] w fun e w' => ∃ r, e = .returned r ∧ ownS w' w.heap.size r (wordsL (bs s)) ∧ Below w.heap.size w w' := by
  obtain ⟨lim, hlim⟩ : ∃ lim : Nat, (lim : Int) = max (s.size : Int) 1 := ⟨max s.size 1, by omega⟩
  have hsz : (bs s).length = s.size := size_toList s
  have HL := Lib.hid hlim; clear hlim
  have HZ := Lib.hid hsz; clear hsz
  obtain ⟨w1, hw1⟩ : ∃ w1, w1 = w.alloc (.cells #[.int .i64 lim, .slice none 0 0, .bool false] 44) := ⟨_, rfl⟩
  have hS1 : Spl w1 w.heap.size w.heap.size lim (.slice none 0 0) [] false := by rw [hw1]; exact new_spl w _ lim (Nat.le_refl _)
  have hb1 : Below w.heap.size w w1 := by rw [hw1]; exact (Below.refl _ _).alloc (Nat.le_refl _) _
  obtain ⟨x, w2, hcv, hx2, hxo, hb2, hz2⟩ := conv_bytes w1 s
  have hS2 := hS1.below hb2 (Nat.le_refl _)
  have HX := Lib.hid hx2
  have HS2 := Lib.hid hS2
  have HXV := Lib.hid (new_bytes_ne hS1 hxo)
  have HW1 := Lib.hid hw1
  clear hw1 hS1 hx2 hS2 hxo
  go_enter Try.func9, Try.ntmps9
  go_wp2_with (go_at_call 14; refine (new_any _ lim _ (by omega) (by omega) HL.out).mono ?_; rintro e w' ⟨rfl, hw'⟩; rw [← HW1.out] at hw'; subst hw')
  have hfit : fits lim ([] ++ bs s) := fits_all (by have h1 := HL.out; have h2 := HZ.out; simp only [List.nil_append]; omega)
  have HFI := Lib.hid hfit; clear hfit
  refine (feed_any x _ _ _ lim _ [] (bs s) HS2.out (fits_nil lim) HX.out HXV.out (by have h2 := HZ.out; simp only [List.length_nil]; omega)).mono ?_
  rintro e w3 ⟨r, N, b, v3, o, rfl, hres, hown3, hS3, hk3, hm3⟩
  obtain ⟨rfl, hN, ho⟩ : b = true ∧ N = ended (bs s) ∧ o = opn (bs s) := by
    rcases hres with ⟨h1, _, h3, h4⟩ | ⟨_, _, k, hk, _⟩
    · exact ⟨h1, by simpa [ended_nil] using h3.symm, by simpa using h4⟩
    · exact absurd HFI.out (longAt_not hk)
  clear hres
  have HS3 := Lib.hid hS3; have HO3 := Lib.hid hown3; have HN := Lib.hid hN; have HO := Lib.hid ho
  clear hS3 hown3 hN ho
  have hol : o.length ≤ 1048576 := by rw [HO.out]; have h1 := opn_len (bs s); have h2 := HZ.out; omega
  have hbig : N.length + (endL o).length ≤ 1048576 := by rw [HN.out, HO.out]; have h1 := wordsL_len (bs s); have h2 := HZ.out; unfold wordsL at h1; rw [List.length_append] at h1; omega
  have HB := Lib.hid hbig; clear hbig
  go_wp2_with (first
    | (go_at_call 19; refine (end_any _ _ _ _ _ _ _ HS3.out hol).mono ?_; rintro e w4 ⟨r4, v4, rfl, hown4, hS4, hv4, hk4⟩; have HO4 := Lib.hid hown4; have HS4 := Lib.hid hS4; clear hown4 hS4)
    | (at_builtin; refine wpList_append_texts rfl (.tmp 16) (.tmp 18) rfl _ _ r r4 N (endL o) rfl rfl (HO3.out.spl HS3.out hk4) HO4.out HB.out (Nat.le_trans hk3.size hk4.size) ?_; intro r5 w5 hown5 hgr5; have HO5 := Lib.hid hown5; have HG5 := Lib.hid hgr5; clear hown5 hgr5))
  go_ret
  have z1 := hb1.size
  have z2 := Nat.le_trans z1 hb2.size
  have z3 := Nat.le_trans z2 hk3.size
  have z4 := Nat.le_trans z3 hk4.size
  have b3 := hk3.below z2 HS2.out.mine_ge
  have b4 := hk4.below z3 HS3.out.mine_ge
  have hB := (((hb1.trans (hb2.mono z1)).trans b3).trans b4).grown HG5.out z4 (fun k hk => Nat.le_trans z2 ((HO3.out.lt k hk).1))
  refine ⟨_, rfl, ?_, hB⟩
  have h5 := HO5.out.mono z2
  rw [HN.out, HO.out] at h5
  exact h5
end Go.Proofs.Ytkkpjbhnakbipaa
