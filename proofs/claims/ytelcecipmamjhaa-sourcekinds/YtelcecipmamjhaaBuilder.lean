/- The contracts of the library's strings.Builder at a builder of the call's own: copyCheck, Write of a row of bytes, String. -/
import Derived.Test.YtelcecipmamjhaaMem
import Derived.Lib.Builder
import Derived.Lib.UnsafeStr
import Derived.Lib.Walk
import Derived.Laws.Externs
namespace Go.Proofs.Ytelcecipmamjhaa
open Go.RowKit

theorem Try.info56 : (Try.prog.info? 56).map (·.size) = some 2 := by kernel_rfl
theorem Try.lies56 : liesAt Try.prog Try.prog.depth 56 (2 / Try.prog.cellsOf 56) 0 56 1 = true := by kernel_rfl
theorem Try.cells5 : Try.prog.cellsOf 5 = 1 := by kernel_rfl

/-- Block K is a strings.Builder that holds the bytes acc in v. -/
def Bld (w : World) (base K : Nat) (v : Value) (acc : List UInt8) : Prop :=
  base ≤ K ∧ (∃ p, (p = .pointer none ∨ p = .pointer (some ⟨K, 0, none⟩)) ∧ w.heap[K]? = some (.cells #[p, v] 56 (0, 0))) ∧ ownB w base 5 v acc ∧ (acc = [] → v = .slice none 0 0)
/-- The blocks of a thing that lies in block K and holds the row v. -/
def mine (K : Nat) (v : Value) (k : Nat) : Prop := k = K ∨ v.ownBlock = some k

theorem Bld.lt {w : World} {base K : Nat} {v : Value} {acc : List UInt8} (h : Bld w base K v acc) : K < w.heap.size := by
  obtain ⟨_, ⟨p, _, hp⟩, _⟩ := h
  exact (Array.getElem?_eq_some_iff.1 hp).1
theorem Bld.mine_lt {w : World} {base K : Nat} {v : Value} {acc : List UInt8} (h : Bld w base K v acc) : ∀ k, mine K v k → k < w.heap.size := by
  rintro k (rfl | hk)
  · exact h.lt
  · exact (ownB.lt h.2.2.1 k hk).2
theorem Bld.mine_ge {w : World} {base K : Nat} {v : Value} {acc : List UInt8} (h : Bld w base K v acc) : ∀ k, mine K v k → base ≤ k := by
  rintro k (rfl | hk)
  · exact h.1
  · exact (ownB.lt h.2.2.1 k hk).1
theorem Bld.kept {w w' : World} {base K : Nat} {v : Value} {acc : List UInt8} (h : Bld w base K v acc) (hk : ∀ k, mine K v k → w'.heap[k]? = w.heap[k]?) : Bld w' base K v acc := by
  obtain ⟨hb, ⟨p, hp, hK⟩, ho, h0⟩ := h
  exact ⟨hb, ⟨p, hp, by rw [hk K (.inl rfl)]; exact hK⟩, ownB.kept ho fun g hg => hk g (.inr hg), h0⟩
theorem Bld.ne {w : World} {base K : Nat} {v : Value} {acc : List UInt8} (h : Bld w base K v acc) : some K ≠ v.ownBlock := by
  intro e
  obtain ⟨cs, hc⟩ := ownB.block h.2.2.1 K e.symm
  obtain ⟨_, ⟨p, _, hp⟩, _⟩ := h
  rw [hp] at hc; cases hc

/-- What copyCheck asks of the builder's own address. -/
theorem check_facts (b : Nat) : ∃ j, Try.prog.info? 56 = some j ∧ j.size = 2 ∧ ∀ w, (binOp .neq 54 (.pointer (some ⟨b, 0, none⟩)) (.pointer (some ⟨b, 0, none⟩))).run Try.prog w = .ok (.bool false) w := by
  obtain ⟨j, hj, hjs⟩ := Option.map_eq_some_iff.1 Try.info56
  exact ⟨j, hj, hjs, fun w => Lib.run_neq_ptr_same w _ Try.underlying54 hj⟩
theorem check_used (b : Nat) (w : World) (h0 : w.cell? ⟨b, 0, none⟩ = some (.pointer (some ⟨b, 0, none⟩))) :
    Calls Try.prog 20 #[.pointer (some ⟨b, 0, none⟩)] w fun e w' => e = .returned (.tuple #[]) ∧ w' = w := by
  obtain ⟨_, _, _, hne⟩ := check_facts b
  go_enter Try.func20, Try.ntmps20
  go_wp2
  go_end0
  exact ⟨rfl, rfl⟩
theorem check_fresh (b : Nat) (w : World) (h0 : w.cell? ⟨b, 0, none⟩ = some (.pointer none)) (hsh : w.shape? b = some (56, 2)) (hfz : w.frozen? ⟨b, 0, none⟩ = false) :
    Calls Try.prog 20 #[.pointer (some ⟨b, 0, none⟩)] w fun e w' => e = .returned (.tuple #[]) ∧ w' = w.setCell ⟨b, 0, none⟩ (.pointer (some ⟨b, 0, none⟩)) := by
  obtain ⟨j, hj, hjs, hne⟩ := check_facts b
  have hto := Lib.run_to_unsafe (P := Try.prog) w ⟨b, 0, none⟩ Try.underlying54 Try.underlying63 hj (by omega) hsh (Nat.succ_pos 1)
  have hsame : ∀ x, (callFunc 21 #[x]).run Try.prog w = .ok (.value x) w := fun x => by
    rw [run_callFunc_extern Try.func21 (by kernel_rfl) (by kernel_rfl) (by kernel_rfl) (e := Extern.AbiNoEscape.same) (by kernel_rfl), Lib.run_noEscape]; rfl
  have hfrom := Lib.run_from_unsafe (P := Try.prog) w ⟨b, 0, none⟩ Try.underlying63 Try.underlying54 hj hsh Try.lies56
  clear hj hjs hsh
  go_enter Try.func20, Try.ntmps20
  go_wp2
  go_end0
  exact ⟨rfl, rfl⟩
theorem check_any (w : World) (base K : Nat) (v : Value) (acc : List UInt8) (h : Bld w base K v acc) :
    Calls Try.prog 20 #[.pointer (some ⟨K, 0, none⟩)] w fun e w' => e = .returned (.tuple #[]) ∧ w'.heap[K]? = some (.cells #[.pointer (some ⟨K, 0, none⟩), v] 56 (0, 0)) ∧ Bld w' base K v acc ∧ Kept (fun k => k = K) w w' := by
  have H := h
  obtain ⟨hb, ⟨p, hp, hK⟩, ho, h0⟩ := h
  rcases hp with rfl | rfl
  · refine (check_fresh K w (by rw [Lib.cell_of_heap hK]; rfl) (by simp [World.shape?, hK]) (Lib.frozen_of_heap hK 0)).mono ?_
    rintro e w' ⟨rfl, rfl⟩
    have hs : (w.setCell ⟨K, 0, none⟩ (.pointer (some ⟨K, 0, none⟩))).heap[K]? = some (.cells #[.pointer (some ⟨K, 0, none⟩), v] 56 (0, 0)) := by rw [heap_setCell_at hK]; rfl
    refine ⟨rfl, hs, ⟨hb, ⟨_, .inr rfl, hs⟩, ownB.kept ho fun g hg => Below.heap_setCell _ _ _ _ fun e => H.ne (by have e' : g = K := e; rw [← e', hg]), h0⟩, (Kept.refl _ _).setCell _ _ fun _ => rfl⟩
  · refine (check_used K w (by rw [Lib.cell_of_heap hK]; rfl)).mono ?_
    rintro e w' ⟨rfl, rfl⟩
    exact ⟨rfl, hK, H, Kept.refl _ _⟩

theorem bytesAt.src {w : World} {g n cap : Nat} {l : List UInt8} (h : bytesAt w (.slice (some ⟨g, 0, none⟩) n cap) l) : ∀ j u, (bcells l)[j]? = some u → w.cell? ((⟨g, 0, none⟩ : Addr).add j) = some u := by
  intro j u hu
  obtain ⟨hj, rfl⟩ := bcells_at l hu
  obtain ⟨g', cap', cs, fr, e, hg, hc⟩ := h
  cases e
  rw [add_zero_off, cell_of_row w g j cs 5 fr hg, hc j hj]

/-- Where a row went. -/
def Moved (v v' : Value) (n : Nat) : Prop := v'.ownBlock = v.ownBlock ∨ ∀ g, v'.ownBlock = some g → n ≤ g

set_option maxHeartbeats 400000 in
theorem write_any (x : Value) (w : World) (base K : Nat) (v : Value) (acc l : List UInt8) (h : Bld w base K v acc) (hx : bytesAt w x l) (hxv : x.ownBlock ≠ v.ownBlock) (hl : l ≠ []) (hlen : acc.length + l.length ≤ 1048576) :
    Calls Try.prog 19 #[.pointer (some ⟨K, 0, none⟩), x] w fun e w' => ∃ v', e = .returned (.tuple #[.int .i64 (l.length : Int), .nilIface]) ∧ Bld w' base K v' (acc ++ l) ∧ Kept (mine K v) w w' ∧ Moved v v' w.heap.size := by
  obtain ⟨i0, hi, hz0, hz1, hz2⟩ := info_parts Try.info5
  have hpos : 0 < l.length := List.length_pos_iff.2 hl
  have hxK : x.ownBlock ≠ some K := by
    intro e
    obtain ⟨cs, fr, hc⟩ := hx.block K e
    obtain ⟨_, ⟨p, _, hp⟩, _⟩ := h
    rw [hp] at hc; cases hc
  have HX := Lib.hid hx
  obtain ⟨g, cap, cs, fr, rfl, _, _⟩ := hx
  have HH := Lib.hid h
  have HL := Lib.hid hl
  have HXV := Lib.hid hxv
  have HXK := Lib.hid hxK
  clear h hl hxv hxK
  go_enter Try.func19, Try.ntmps19
  go_wp2_with fail
  refine (check_any _ base K v acc HH.out).mono ?_
  rintro e w1 ⟨rfl, hK1, hB1, hk1⟩
  have HB1 := Lib.hid hB1
  have hown : w1.ownsRow base 5 1 v acc.length (bcells acc) := HB1.out.2.2.1
  have hbase : base ≤ w1.heap.size := Nat.le_of_lt (Nat.lt_of_le_of_lt HB1.out.1 HB1.out.lt)
  have hX1 : bytesAt w1 (.slice (some ⟨g, 0, none⟩) l.length cap) l := HX.out.kept fun k hk => hk1.block k (HX.out.lt k hk) fun e => HXK.out (by rw [hk, e])
  have HX1 := Lib.hid hX1
  obtain ⟨a, c, hv⟩ := ownB.form HB1.out.2.2.1
  subst hv
  have c0 : w1.cell? ⟨K, 0, none⟩ = some (.pointer (some ⟨K, 0, none⟩)) := by rw [Lib.cell_of_heap hK1]; rfl
  have c1 : w1.cell? ⟨K, 1, none⟩ = some (.slice a acc.length c) := by rw [Lib.cell_of_heap hK1]; rfl
  have HK1 := Lib.hid hK1
  clear hB1 hX1 hK1
  go_wp2_with (at_builtin; refine wpList_append_lies _ rfl _ _ 32 rfl base 5 i0 (.int .u8 0) 1 1 Try.underlying32 hi hz0 hz1 hz2 rfl (by decide) (.slice a acc.length c) _ (bcells acc) rfl hown ⟨g, 0, none⟩ l.length cap (bcells l) rfl (by rw [bcells_len, Nat.mul_one]) (bytesAt.src HX1.out) (bcells_one l) hpos (by unfold maxLen; omega) (by omega) hbase _ rfl ?_; intro g3 cap3 w2 hown3 hgr3 hat3 hlt3; have hK2 := hgr3.block K HB1.out.lt HB1.out.ne; have d0 : w2.cell? ⟨K, 0, none⟩ = some (.pointer (some ⟨K, 0, none⟩)) := (World.cell?_of_block (a := ⟨K, 0, none⟩) hK2).trans c0; have d1 : w2.cell? ⟨K, 1, none⟩ = some (.slice a acc.length c) := (World.cell?_of_block (a := ⟨K, 1, none⟩) hK2).trans c1; have f1 : w2.frozen? ⟨K, 1, none⟩ = false := Lib.frozen_of_heap (hK2.trans HK1.out) 1; have HK2 := Lib.hid hK2; clear hK2)
  go_ret2
  have hO : ownB w2 base 5 (.slice (some ⟨g3, 0, none⟩) (acc.length + l.length) cap3) (acc ++ l) := by
    unfold ownB; rw [List.length_append, bcells_append]; exact hown3
  have hne : some K ≠ (Value.slice (some ⟨g3, 0, none⟩) (acc.length + l.length) cap3).ownBlock := by
    intro e
    obtain ⟨cs, hc⟩ := ownB.block hO K e.symm
    rw [HK2.out, HK1.out] at hc; cases hc
  refine ⟨_, rfl, ⟨HB1.out.1, ⟨_, .inr rfl, by rw [heap_setCell_at (HK2.out.trans HK1.out)]; rfl⟩, ownB.kept hO fun k hk => Below.heap_setCell _ _ _ _ fun e => hne (by have e' : k = K := e; rw [← e', hk]), fun e => absurd (List.append_eq_nil_iff.1 e).2 HL.out⟩, ?_, ?_⟩
  · have h1 : Kept (mine K (.slice a acc.length c)) w w1 := (Kept.refl _ w).trans hk1 fun k _ e => .inl e
    exact (h1.grown hgr3 fun k hk _ => .inr hk).setCell _ _ fun _ => .inl rfl
  · rcases hat3 with hat | hat
    · exact .inl hat.symm
    · refine .inr fun q hq => ?_
      simp [Value.ownBlock] at hq
      have := hk1.size
      omega

theorem Bld.buf {w : World} {base K : Nat} {v : Value} {acc : List UInt8} (h : Bld w base K v acc) : w.cell? ⟨K, 1, none⟩ = some v := by
  obtain ⟨_, ⟨p, _, hK⟩, _⟩ := h
  rw [Lib.cell_of_heap hK]; rfl
theorem string_none (w : World) (base K : Nat) (v : Value) (h : Bld w base K v []) :
    Calls Try.prog 18 #[.pointer (some ⟨K, 0, none⟩)] w fun e w' => e = .returned (.string ⟨#[]⟩) ∧ Kept (fun k => base ≤ k) w w' := by
  obtain rfl := h.2.2.2 rfl
  have hc : w.drew.cell? ⟨K, 1, none⟩ = some (.slice none 0 0) := h.buf
  have hdata : (Builtin.unsafeSliceData_ #[32] 62 #[.slice none 0 0]).run Try.prog w.drew = .ok (.pointer none) w.drew := rfl
  have htext := Lib.run_unsafeString_none (P := Try.prog) w.drew 62 3 9 none
  clear h
  go_enter Try.func18, Try.ntmps18
  go_wp2
  go_region
  all_goals (go_wp2; go_ret; exact ⟨rfl, (Kept.refl _ w).drew⟩)

theorem Kept.freeze {S : Nat → Prop} {a w : World} (h : Kept S a w) (p : Addr) (n : Nat) (hp : S p.block) : Kept S a (w.freeze p n) := by
  refine h.trans (T := fun k => k = p.block) ?_ (fun i _ e => by subst e; exact hp)
  unfold World.freeze
  split
  · exact Kept.refl _ _
  · exact ⟨rfl, rfl, rfl, by simp, fun k _ hne => by
      have hne' : ¬ p.block = k := fun e => hne e.symm
      simp [Array.getElem?_modify, hne']⟩

theorem string_some (w : World) (base K : Nat) (v : Value) (l : List UInt8) (h : Bld w base K v l) (hl : l ≠ []) :
    Calls Try.prog 18 #[.pointer (some ⟨K, 0, none⟩)] w fun e w' => e = .returned (.string ⟨l.toArray⟩) ∧ Kept (fun k => base ≤ k) w w' := by
  have hpos : 0 < l.length := List.length_pos_iff.2 hl
  have hown : ownB w base 5 v l := h.2.2.1
  have hc : w.drew.cell? ⟨K, 1, none⟩ = some v := h.buf
  rcases hown.2 with ⟨_, h0⟩ | ⟨g, cap, cur, rfl, hbg, hg, hcap, hmax, hsz, _⟩
  · omega
  have hshape : w.drew.shape? g = some (5, cur.size) := by
    have hg' : w.drew.heap[g]? = some (.cells cur 5 (0, 0)) := hg
    simp [World.shape?, hg']
  have hdata : (Builtin.unsafeSliceData_ #[32] 62 #[.slice (some ⟨g, 0, none⟩) l.length cap]).run Try.prog w.drew = .ok (.pointer (some ⟨g, 0, none⟩)) w.drew := Lib.run_unsafeSliceData_row _ _ _ _ _ _ (by omega)
  have htext := Lib.run_unsafeString_row (P := Try.prog) w.drew 62 3 9 5 Try.underlying62 Try.cells5 g cur.size hshape l hl (by omega) (by unfold maxLen at hmax; omega) fun j x hx => ownB.src (w := w.drew) hown j (.int .u8 x.toNat) (by simp [bcells, hx])
  clear h hown hshape hg hsz hmax hl hcap hpos
  go_enter Try.func18, Try.ntmps18
  go_wp2
  go_region
  all_goals (go_wp2; go_ret; exact ⟨rfl, ((Kept.refl _ w).drew).freeze _ _ hbg⟩)
theorem string_any (w : World) (base K : Nat) (v : Value) (l : List UInt8) (h : Bld w base K v l) :
    Calls Try.prog 18 #[.pointer (some ⟨K, 0, none⟩)] w fun e w' => e = .returned (.string ⟨l.toArray⟩) ∧ Kept (fun k => base ≤ k) w w' := by
  by_cases hl : l = []
  · subst hl; exact string_none w base K v h
  · exact string_some w base K v l h hl
end Go.Proofs.Ytelcecipmamjhaa
