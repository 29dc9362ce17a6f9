/-
  Stage 2: RationalReverses returns true for any two rationals.
-/
import Derived.Test.YtfpcooinceebpaaGreatRatRev
namespace Go.Proofs.YtfpcooinceebpaaGreat
open Go.RowKit

theorem rationalReverses_any (a b : RVal) (w : World) (h1 : a.In w) (h2 : b.In w) :
    Calls Tryz.prog 9 #[.agg #[.bool a.g, .slice a.A a.n a.c, .bool a.gd, .slice a.Ad a.nd a.cd], .agg #[.bool b.g, .slice b.A b.n b.c, .bool b.gd, .slice b.Ad b.nd b.cd]] w fun e w' => e = .returned (.bool true) ∧ Below w.heap.size w w' := by
  rcases hv : vok a b b 32 with _ | _
  · exact rev_no a b w h1 h2 hv
  · obtain ⟨x, y, y', hx, hy, _, bx, by', _⟩ := vok_yes h1 h2 h2 hv
    have e1 : x + y - y = x := by grind
    have e2 : x - x = Rat.divInt 0 1 := by rw [show Rat.divInt 0 1 = 0 from rfl]; grind
    by_cases hz : y.num = 0
    · exact rev_0 a b w h1 h2 x y hx hy ⟨bx, by'⟩ hv hz ⟨e1, e2, trivial⟩
    · have y0 : y ≠ 0 := fun h => hz (by rw [h]; rfl)
      have e3 : x * y / y = x := by grind
      have e4 : y / y = Rat.divInt 1 1 := by rw [show Rat.divInt 1 1 = 1 from rfl]; grind
      exact rev_1 a b w h1 h2 x y hx hy ⟨bx, by'⟩ hv hz ⟨e1, e2, e3, e4⟩
end Go.Proofs.YtfpcooinceebpaaGreat
