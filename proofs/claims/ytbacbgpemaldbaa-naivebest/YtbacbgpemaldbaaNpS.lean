/- The three laws of naive, walked: what is asked of the program, met. -/
import Derived.Test.YtbacbgpemaldbaaNpN
import Derived.Test.YtbacbgpemaldbaaNvE
namespace Go.Proofs.Ytbacbgpemaldbaa
open Go.RowKit

set_option maxRecDepth 100000 in
theorem nBests : NBests := by
  intro x y WW C w hx hy hl hCl _ hs hc hyn hyc
  have h1 := all_few WW fun W hW => (hs W hW).1
  have h2 := cap_few WW C (fun W hW => (hs W hW).1) hc
  have h3 : (WW.length : Int) * 39000000 ≤ 20 * 39000000 := Int.mul_le_mul_of_nonneg_right (by omega) (by omega)
  exact best_any x y WW C w hx hy hyn hyc (by omega) hCl (by omega) (by omega) fun W hW t ht => by have := (hs W hW).2 t ht; omega
set_option maxRecDepth 100000 in
theorem nJoins : NJoins := by
  intro m x W w hx _ hs h1 h2
  refine (pjoin_any m x W w hx (by have := hs.1; omega) (by omega) fun t ht => by have := hs.2 t ht; omega).mono ?_
  rintro e w' ⟨v, rfl, hv, hb⟩
  exact ⟨v, rfl, hv.reads, hb⟩
end Go.Proofs.Ytbacbgpemaldbaa
