/- The document's own Texts and Join: a word as its bytes, and behind a merge. -/
import Derived.Test.YtbacbgpemaldbaaNvP
import Derived.Test.YtbacbgpemaldbaaElts
import Derived.BigQuiet
namespace Go.Proofs.Ytbacbgpemaldbaa
open Go.RowKit

/-- A word's bytes, each as a text. -/
def bytesT (s : ByteArray) : List ByteArray := (bs s).map fun b => ⟨#[b]⟩
set_option maxRecDepth 100000 in
theorem bytesT_len (s : ByteArray) : (bytesT s).length = s.size := by rw [bytesT, List.length_map, bs_size]
set_option maxRecDepth 100000 in
theorem bytesT_one (s : ByteArray) : ∀ t ∈ bytesT s, t.size = 1 := by
  intro t ht
  obtain ⟨b, _, rfl⟩ := List.mem_map.1 ht
  rfl
set_option maxRecDepth 100000 in
theorem bytesT_take {s y : ByteArray} {k : Nat} (hk : k < s.size) (h : (bs s).take (k + 1) = (bs s).take k ++ bs y) : (bytesT s).take (k + 1) = (bytesT s).take k ++ [y] := by
  have hk' : k < (bs s).length := by rw [bs_size]; exact hk
  rw [List.take_succ_eq_append_getElem hk'] at h
  have e := List.append_cancel_left h
  have ey : y = ⟨#[(bs s)[k]]⟩ := by
    apply bs_inj
    rw [← e]
  unfold bytesT
  rw [← List.map_take, ← List.map_take, List.take_succ_eq_append_getElem hk', List.map_append, ey]
  rfl
def TxRel (s : ByteArray) (w : World) (v i : Value) (wr : World) : Prop :=
  ∃ k : Nat, i = .int .i64 (k : Int) ∧ k ≤ s.size ∧ ownE textE wr w.heap.size v ((bytesT s).take k) ∧ Below w.heap.size w wr
def TxRet (s : ByteArray) (w : World) (e : Ending) (w' : World) : Prop := ∃ v, e = .returned v ∧ ownE textE w' w.heap.size v (bytesT s) ∧ Below w.heap.size w w'
set_option maxRecDepth 100000 in
set_option maxHeartbeats 2000000 in
theorem rtexts_any (s : ByteArray) (w : World) (hs : s.size ≤ 1000000) : Calls Try.prog 22 #[.string s] w fun e w' => TxRet s w e w' := by
  go_enter Try.func22, Try.ntmps22
  go_wp2
  go_loopw [3, 4] (fun v i wr => TxRel s w v i wr) (fun _ i _ => s.size - (intOf i).toNat)
  case atStart => exact ⟨0, rfl, Nat.zero_le _, ownE.nil w _, Below.refl _ w⟩
  case round =>
    obtain ⟨k, rfl, hk, ho, hbel⟩ := hrel
    have HO := Lib.hid ho; have HB := Lib.hid hbel
    have hlen := bytesT_len s
    clear ho hbel
    by_cases hgo : k < s.size
    · have hgoI : (k : Int) < (s.size : Int) := by omega
      obtain ⟨y, hcut, hby, _⟩ := cut_mid s k (k + 1) ((k : Int) + 1) (by simp) (by omega) (by omega)
      have hwk : IntKind.i64.wrap ((k : Int) + 1) = (k : Int) + 1 := IntWalk.i64_in _ (by omega)
      have HT := Lib.hid (bytesT_take hgo hby)
      have HA : Hid (ownE textE (wr.alloc (.cells #[.string y] 9)) w.heap.size u3 ((bytesT s).take k)) := Lib.hid (HO.out.alloc _)
      have HE : Hid (eltsAt textE (wr.alloc (.cells #[.string y] 9)) (.slice (some ⟨wr.heap.size, 0, none⟩) 1 1) [y]) := Lib.hid (one_elt textE wr y)
      have HZ : Hid (w.heap.size ≤ (wr.alloc (.cells #[.string y] 9)).heap.size) := Lib.hid (by rw [World.size_alloc]; have := HB.out.size; omega)
      clear hby
      go_wp2_with (at_builtin; refine wpList_append_elts textE rfl (.tmp 11) (.tmp 17) rfl w.heap.size u3 _ ((bytesT s).take k) [y] rfl rfl HA.out HE.out (someNone _ _ _) (by simp; omega) HZ.out ?_; intro r5 w5 hown5 hg5 _; have HO5 := Lib.hid hown5; have HG5 := Lib.hid hg5; clear hown5 hg5)
      go_roundw
      case measure => simp [intOf]; omega
      case rel => exact ⟨k + 1, by simp, hgo, by rw [HT.out]; exact HO5.out, (HB.out.alloc HB.out.size _).grown HG5.out HZ.out fun g e => (HO.out.lt g e).1⟩
    · have hgoI : ¬ (k : Int) < (s.size : Int) := by omega
      have HT : Hid ((bytesT s).take k = bytesT s) := Lib.hid (List.take_of_length_le (by omega))
      go_wp2
      go_ret
      exact ⟨_, rfl, by have := HO.out; rwa [HT.out] at this, HB.out⟩
/-! Join. -/
set_option maxRecDepth 100000 in
theorem join_pair {m : Mg} {W : List ByteArray} {i : Nat} (h : i + 1 < W.length) (h1 : W[i]'(by omega) = m.1) (h2 : W[i + 1] = m.2) : joinT m (W.drop i) = (m.1 ++ m.2) :: joinT m (W.drop (i + 2)) := by
  rw [List.drop_eq_getElem_cons (by omega : i < W.length), List.drop_eq_getElem_cons h]
  exact if_pos ⟨h1, h2⟩
set_option maxRecDepth 100000 in
theorem join_next {m : Mg} {W : List ByteArray} {i : Nat} (h : i < W.length) (hn : ∀ h' : i + 1 < W.length, ¬ (W[i] = m.1 ∧ W[i + 1] = m.2)) : joinT m (W.drop i) = W[i] :: joinT m (W.drop (i + 1)) := by
  rw [List.drop_eq_getElem_cons h]
  by_cases h' : i + 1 < W.length
  · rw [List.drop_eq_getElem_cons h']
    exact if_neg (hn h')
  · rw [List.drop_of_length_le (by omega)]
    rfl
set_option maxRecDepth 100000 in
theorem txt_cell {w wr : World} {L : List ByteArray} {ad : Addr} {n cap : Nat} (h : eltsAt textE w (.slice (some ad) n cap) L) (hb : Below w.heap.size w wr) {k : Nat} (hk : k < L.length) : wr.cell? (ad.add k) = some (.string L[k]) := by
  have := elts_at h hb hk 0 _ rfl
  rwa [show textE.n = 1 from rfl, Nat.mul_one, Nat.add_zero] at this
/-- What is joined so far, and what comes. -/
def JnRel (m : Mg) (W : List ByteArray) (w : World) (base : Nat) (v i : Value) (wr : World) : Prop :=
  ∃ (k : Nat) (O : List ByteArray), i = .int .i64 (k : Int) ∧ k ≤ W.length ∧ O ++ joinT m (W.drop k) = joinT m W ∧ O.length ≤ k ∧ ownE textE wr base v O ∧ Below base w wr
def JnRet (m : Mg) (W : List ByteArray) (w : World) (e : Ending) (w' : World) : Prop := ∃ v, e = .returned v ∧ ownE textE w' w.heap.size v (joinT m W) ∧ Below w.heap.size w w'
end Go.Proofs.Ytbacbgpemaldbaa
