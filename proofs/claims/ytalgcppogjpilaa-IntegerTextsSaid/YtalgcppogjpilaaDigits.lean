/-
  Numbers by their digits; what a shift does to them. Plain mathematics.
-/
import Derived.Test.YtalgcppogjpilaaWin
namespace Go.Proofs.Ytalgcppogjpilaa

/-- Limb k of a trimmed or untrimmed number is its digit. -/
theorem lim_digit {xs : List Nat} (h : Ok xs) (k : Nat) : lim xs k = val xs / 4294967296 ^ k % 4294967296 := by
  induction xs generalizing k with
  | nil => simp [lim_eq, val]
  | cons x xs ih =>
    have hx := h.head
    rcases k with _ | k
    · rw [val_cons, Nat.pow_zero, Nat.div_one, lim_eq]
      simp; omega
    · rw [lim_eq, List.getElem?_cons_succ, ← lim_eq, ih h.tail, val_cons, Nat.pow_succ, Nat.mul_comm _ 4294967296, ← Nat.div_div_eq_div_mul]
      congr 2
      omega
/-- A window whose limbs are the digits of N. -/
theorem wv_digits {zs : List Nat} {N : Nat} {k : Nat} (h : ∀ i, i < k → lim zs i = N / 4294967296 ^ i % 4294967296) : wv zs 0 k = N % 4294967296 ^ k := by
  induction k with
  | zero => simp [wv, Nat.mod_one]
  | succ k ih =>
    rw [wv_succ, ih (fun i hi => h i (by omega)), Nat.zero_add, h k (by omega), Nat.pow_succ, Nat.mod_mul]
theorem pow_split (c : Nat) (hc : c ≤ 32) : 4294967296 = 2 ^ c * 2 ^ (32 - c) := by
  rw [← Nat.pow_add, show c + (32 - c) = 32 by omega]
theorem two_digits (M : Nat) : M % 4294967296 + 4294967296 * (M / 4294967296 % 4294967296) = M % (4294967296 * 4294967296) := (Nat.mod_mul).symm
/-- One limb of a shift to the right. -/
theorem shr_limb (N k c : Nat) (hc : c ≤ 32) : (N / 4294967296 ^ k % 4294967296 + 4294967296 * (N / 4294967296 ^ (k + 1) % 4294967296)) / 2 ^ c % 4294967296 = N / 2 ^ c / 4294967296 ^ k % 4294967296 := by
  rw [Nat.pow_succ, ← Nat.div_div_eq_div_mul N, two_digits, Nat.div_div_eq_div_mul N, Nat.mul_comm (2 ^ c), ← Nat.div_div_eq_div_mul N]
  generalize N / 4294967296 ^ k = M
  have e : 4294967296 * 4294967296 = 2 ^ c * (2 ^ (32 - c) * 4294967296) := by rw [← Nat.mul_assoc, ← pow_split c hc]
  rw [e, Nat.mod_mul_right_div_self, Nat.mod_mod_of_dvd _ (Nat.dvd_mul_left _ _)]

end Go.Proofs.Ytalgcppogjpilaa
