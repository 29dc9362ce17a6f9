/-
  What further laws use of the texts before.
-/
import Derived.Test.YtjbnclfbkccieaaGreatDoorPolR
namespace Go.Proofs.YtjbnclfbkccieaaGreatDoor
open Go.RowKit
theorem cv_delta (c : Rat) (k : Nat) (b : Nat → Rat) (i : Nat) : cv (fun j => if j = k then c else 0) b i = if k ≤ i then c * b (i - k) else 0 := by
  rw [cv_comm]
  unfold cv
  by_cases h : k ≤ i
  · rw [if_pos h]
    have e : sm (i + 1) (fun j => b j * (if i - j = k then c else 0)) = sm (i + 1) (fun j => if j = i - k then c * b (i - k) else 0) := by
      refine sm_congr fun j hj => ?_
      by_cases hk : i - j = k
      · rw [if_pos hk, if_pos (by omega), show j = i - k by omega]; grind
      · rw [if_neg hk, if_neg (by omega)]; grind
    rw [e]
    have one : ∀ n m (v : Rat), m < n → sm n (fun j => if j = m then v else 0) = v := by
      intro n
      induction n with
      | zero => intro m v h; omega
      | succ n ih =>
        intro m v hm
        rw [sm]
        by_cases e : m = n
        · subst e
          rw [sm_zero (fun j hj => by rw [if_neg (by omega)]), if_pos rfl]; grind
        · rw [ih m v (by omega), if_neg (by omega)]; grind
    exact one _ _ _ (by omega)
  · rw [if_neg h]
    exact sm_zero fun j hj => by show b j * (if i - j = k then c else 0) = 0; rw [if_neg (by omega)]; grind
end Go.Proofs.YtjbnclfbkccieaaGreatDoor
