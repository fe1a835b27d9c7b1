/- In a region that draws its order, what holds behind each operation may be strengthened on the way. -/
import Derived.Test.YthgjpkemgpkknaaSameP
import Derived.Deep.RegionHeld3
namespace Go.Proofs.Ythgjpkemgpkknaa
open Go.RowKit

theorem wpAnyH_mono {P : Program} {md : Region.Mode} {ops : Array Oper} {Q : Exit → Act → World → Prop} {S S' : World → Prop} (hSS : ∀ w, S' w → S w) : ∀ (fuel : Nat) (listed : Array Bool) (a : Act) (w : World), wpAnyH P md ops Q S' fuel listed a w → wpAnyH P md ops Q S fuel listed a w
  | 0, _, _, _, h => h
  | fuel + 1, _, _, _, h => ⟨h.1, fun i hi => wpOp_mono (fun a' w' h' => ⟨hSS _ h'.1, wpAnyH_mono hSS fuel _ a' w' h'.2⟩) (h.2 i hi)⟩
/-- The way back into the region, with more that holds: an equation, since both hold. -/
theorem shut_eq {P : Program} {md : Region.Mode} {ops : Array Oper} {Q : Exit → Act → World → Prop} {S : World → Prop} (S' : World → Prop) (hSS : ∀ w, S' w → S w) {fuel : Nat} {listed : Array Bool} {K' : Act → World → Prop}
    (h : Shut (∀ a w, S w → (S w → wpAnyH P md ops Q S fuel listed a w) → K' a w)) :
    Shut (∀ a w, S w → (S w → wpAnyH P md ops Q S fuel listed a w) → K' a w) = Shut (∀ a w, S' w → (S' w → wpAnyH P md ops Q S' fuel listed a w) → K' a w) :=
  propext ⟨fun _ => fun a w hs hw => h a w (hSS w hs) (fun _ => wpAnyH_mono hSS fuel listed a w (hw hs)), fun _ => h⟩
end Go.Proofs.Ythgjpkemgpkknaa
