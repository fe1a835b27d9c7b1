/- The document's own Merge and Of. -/
import Derived.Test.YtikaclfcajnddaaRefAdd
import Derived.Test.YtikaclfcajnddaaAddAll
import Derived.Deep.RegionHeld3
namespace Go.Proofs.Ytikaclfcajnddaa
open Go.RowKit

def RMergeRel (l : Bag) (w : World) (o i : Value) (wr : World) : Prop :=
  ∃ (k : Nat) (X : Bag), i = .int .i64 (k : Int) ∧ k ≤ l.length ∧ Sound X ∧ X.length ≤ k ∧ mergeW [] l = mergeW X (l.drop k) ∧ ownW wr w.heap.size o X ∧ Below w.heap.size w wr
theorem rmergeRel_step {l X : Bag} {w wr w2 : World} {r : Value} {k : Nat} (hk : k < l.length) (hX : Sound X) (hl : X.length ≤ k) (hm : mergeW [] l = mergeW X (l.drop k)) (hs : l[k].1.size ≤ 9223372036854775807) (h0 : (addW X l[k].1 l[k].2).2 = 0)
    (ho : ownW w2 w.heap.size r (addW X l[k].1 l[k].2).1) (hb : Below w.heap.size w wr) (hb2 : Below wr.heap.size wr w2) : RMergeRel l w r (.int .i64 ((k : Int) + 1)) w2 :=
  ⟨k + 1, _, by simp, hk, hX.add _ hs, by have := len_addW X l[k].1 l[k].2; omega, hm.trans (merge_next hk h0), ho, hb.trans (hb2.mono hb.size)⟩
/-- What the document's Merge leaves. -/
def RMergeRet (l : Bag) (w : World) (e : Ending) (w' : World) : Prop := ∃ r, e = .returned (.tuple #[r, .int .i64 (mergeW [] l).2]) ∧ ownW w' w.heap.size r (mergeW [] l).1 ∧ Below w.heap.size w w'
def OfRel (P : List (List UInt8)) (w : World) (o i : Value) (wr : World) : Prop :=
  ∃ (k : Nat) (X : Bag), i = .int .i64 (k : Int) ∧ k ≤ P.length ∧ Sound X ∧ X.length ≤ k ∧ ofW [] P = ofW X (P.drop k) ∧ ownW wr w.heap.size o X ∧ Below w.heap.size w wr
theorem ofRel_step {P : List (List UInt8)} {X : Bag} {w wr w2 : World} {r : Value} {k : Nat} (hk : k < P.length) (hX : Sound X) (hl : X.length ≤ k) (hm : ofW [] P = ofW X (P.drop k)) (hs : (ofB P[k]).size ≤ 9223372036854775807)
    (ho : ownW w2 w.heap.size r (addW X (ofB P[k]) 1).1) (hb : Below w.heap.size w wr) (hb2 : Below wr.heap.size wr w2) : OfRel P w r (.int .i64 ((k : Int) + 1)) w2 :=
  ⟨k + 1, _, by simp, hk, hX.add _ hs, by have := len_addW X (ofB P[k]) 1; omega, hm.trans (of_next hk), ho, hb.trans (hb2.mono hb.size)⟩
set_option maxHeartbeats 2000000 in
theorem of_any (v : Value) (P : List (List UInt8)) (w : World) (hv : strsAt w v P) (hP : ∀ t ∈ P, t.length ≤ 9223372036854775807) (hl : P.length ≤ 1000000) :
    Calls Try.prog 18 #[v] w fun e w' => ∃ r, e = .returned r ∧ ownW w' w.heap.size r (ofW [] P) ∧ Below w.heap.size w w' := by
  have HV := Lib.hid hv
  obtain ⟨a, cap, rfl, _⟩ := hv
  go_enter Try.func18, Try.ntmps18
  go_wp2
  go_loopw [3, 4] (fun o i wr => OfRel P w o i wr) (fun _ i _ => P.length + 1 - (intOf i).toNat)
  case atStart => exact ⟨0, [], rfl, by omega, sound_nil, by simp, rfl, ownW.nil _ _, Below.refl _ _⟩
  case round =>
    obtain ⟨k, X, rfl, hk, hX, hlX, hm, hown, hbel⟩ := hrel
    have HX := Lib.hid hX; have HM := Lib.hid hm; have HO := Lib.hid hown; have HB := Lib.hid hbel
    clear hX hm hown hbel
    by_cases hgo : k < P.length
    · have hkI : (k : Int) < (P.length : Int) := by omega
      obtain ⟨a', cap', e1, hc⟩ := HV.out.below HB.out
      cases e1
      obtain ⟨ad, rfl, c0⟩ := hc k hgo
      clear hc
      replace c0 : wr.cell? (ad.add k) = some (.string (ofB P[k])) := c0
      have f1 : (ofB P[k]).size ≤ 9223372036854775807 := by rw [ofB_size]; exact hP _ (List.getElem_mem hgo)
      have hBs := HB.out.size
      go_wp2_with fail
      refine (radd_any w.heap.size u3 X (ofB P[k]) 1 wr HO.out HX.out hBs (by omega) f1 (by omega) (by omega)).mono ?_
      rintro e w5 ⟨r5, rfl, ho5, hb5⟩
      have HO5 := Lib.hid ho5; have HB5 := Lib.hid hb5
      clear ho5 hb5
      go_wp2
      go_roundw
      case rel => exact ofRel_step hgo HX.out hlX HM.out f1 HO5.out HB.out HB5.out
      case measure => simp [intOf]; omega
    · have hkI : ¬ (k : Int) < (P.length : Int) := by omega
      have HE : Hid (ofW [] P = X) := Lib.hid (HM.out.trans (of_end (by omega)))
      go_wp2
      go_ret
      exact ⟨_, rfl, by rw [HE.out]; exact HO.out, HB.out⟩
end Go.Proofs.Ytikaclfcajnddaa
