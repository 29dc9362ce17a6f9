/-
  Stage 2: square roots by values.
-/
import Derived.Test.YtlibjampolcbhaaGreatRatLb
import Derived.Test.YtlibjampolcbhaaGreatRatK
namespace Go.Proofs.YtlibjampolcbhaaGreat
open Go.RowKit
section
variable {q : RVal} {x : Rat} {w : World}
theorem has_sqrt : ∀ n : Nat, ∃ s, s * s ≤ n ∧ n < (s + 1) * (s + 1)
  | 0 => ⟨0, by omega, by omega⟩
  | n + 1 => by
    obtain ⟨s, h1, h2⟩ := has_sqrt n
    by_cases h : n + 1 = (s + 1) * (s + 1)
    · have e : (s + 1 + 1) * (s + 1 + 1) = (s + 1) * (s + 1) + 2 * (s + 1) + 1 := by grind
      exact ⟨s + 1, by omega, by omega⟩
    · exact ⟨s, by omega, by omega⟩
end
end Go.Proofs.YtlibjampolcbhaaGreat
