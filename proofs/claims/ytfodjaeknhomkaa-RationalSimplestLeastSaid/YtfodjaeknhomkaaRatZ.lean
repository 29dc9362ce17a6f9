/-
  Stage 2: the reference's isOne, isZero, Valid and Short.
-/
import Derived.Test.YtfodjaeknhomkaaRatV
import Derived.Test.YtfodjaeknhomkaaBaseF
import Derived.Test.YtfodjaeknhomkaaRatM
namespace Go.Proofs.Ytfodjaeknhomkaa
open Go.RowKit
theorem lim_one {xs : List Nat} {n : Nat} {z : Int} (hx : Ok xs) (nx : Nz xs) (hl : xs.length = n) (hv : val xs = z.natAbs) (hz : 0 ≤ z) : (decide (n = 1) && decide (lim xs 0 = 1)) = decide (z = 1) := by
  subst hl
  by_cases h : z = 1
  · subst h
    have e : xs = [1] := uniq hx (by intro x hx; simp at hx; omega) nx (by simp [Nz]) (by rw [hv]; rfl)
    subst e
    rfl
  · rw [decide_eq_false h]
    rcases xs with _ | ⟨x, _ | ⟨y, ys⟩⟩
    · rfl
    · have : x ≠ 1 := by
        rintro rfl
        simp [val] at hv
        omega
      simp [lim, this]
    · simp
end Go.Proofs.Ytfodjaeknhomkaa
