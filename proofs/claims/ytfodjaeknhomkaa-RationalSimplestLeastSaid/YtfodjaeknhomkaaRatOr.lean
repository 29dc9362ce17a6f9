/-
  Stage 2: RationalOrder, its walk.
-/
import Derived.Test.YtfodjaeknhomkaaRatCm
import Derived.Test.YtfodjaeknhomkaaRatLb
namespace Go.Proofs.Ytfodjaeknhomkaa
open Go.RowKit
/-- The order of two rationals in integers. -/
theorem csgn (x y : Rat) : Int.sign (x.num * y.den - y.num * x.den) = (x - y).num.sign := by
  have hd : 0 < (x.den : Int) * y.den := by have := x.den_pos; have := y.den_pos; exact Int.mul_pos (by omega) (by omega)
  have m := mk_num (x.num * y.den - y.num * x.den) ((x.den : Int) * y.den) (by omega)
  rw [rat_sub, Int.sign_eq_one_of_pos hd, Int.one_mul] at m
  have hg : 0 < gcdZ (x.num * y.den - y.num * x.den) ((x.den : Int) * y.den) := by
    have := m.2.2.2.2
    unfold gcdZ at *
    omega
  have e := Int.ediv_mul_cancel m.1
  rw [m.2.2.1] at e
  rw [← e, Int.sign_mul, Int.sign_eq_one_of_pos hg, Int.mul_one]
theorem sign_three (z : Int) : z.sign = -1 ∧ z < 0 ∨ z.sign = 0 ∧ z = 0 ∨ z.sign = 1 ∧ 0 < z := by
  rcases Int.lt_trichotomy z 0 with h | h | h
  · exact Or.inl ⟨Int.sign_eq_neg_one_of_neg h, h⟩
  · exact Or.inr (Or.inl ⟨by rw [h]; rfl, h⟩)
  · exact Or.inr (Or.inr ⟨Int.sign_eq_one_of_pos h, h⟩)
theorem num_zero {x : Rat} (h : x.num = 0) : x = 0 := Rat.num_eq_zero.1 h
theorem num_add_nonneg {x y : Rat} (h : 0 ≤ x.num) (k : 0 ≤ y.num) : 0 ≤ (x + y).num := Rat.num_nonneg.2 (Rat.add_nonneg (Rat.num_nonneg.1 h) (Rat.num_nonneg.1 k))
theorem num_add_pos {x y : Rat} (h : 0 < x.num) (k : 0 ≤ y.num) : 0 < (x + y).num := by
  rcases Int.lt_or_eq_of_le (num_add_nonneg (Int.le_of_lt h) k) with e | e
  · exact e
  · have z := num_zero e.symm
    have e2 : x = -y := by grind
    have e3 : x.num = -y.num := by rw [e2]; rfl
    omega
end Go.Proofs.Ytfodjaeknhomkaa
