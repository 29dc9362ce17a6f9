/-
  IntegerSquares returns true, for any integer, valid or not.
-/
import Derived.Test.YtalgcppogjpilaaLawSq1
namespace Go.Proofs.Ytalgcppogjpilaa
open Go.RowKit

theorem root_of (N : Nat) : ∃ s : Nat, s * s ≤ N ∧ N < (s + 1) * (s + 1) := by
  induction N with
  | zero => exact ⟨0, by decide, by decide⟩
  | succ N ih =>
    obtain ⟨s, h1, h2⟩ := ih
    by_cases h : N + 1 < (s + 1) * (s + 1)
    · exact ⟨s, by omega, h⟩
    · refine ⟨s + 1, by omega, ?_⟩
      have e : (s + 1 + 1) * (s + 1 + 1) = (s + 1) * (s + 1) + 2 * s + 3 := by
        rw [Nat.add_mul, Nat.mul_add (s + 1) (s + 1) 1, Nat.one_mul, Nat.mul_one]; omega
      omega
theorem root_one {s N B : Nat} (h1 : s * s ≤ N) (hN : N < B) (hB : 2 < B) : s + 1 < B := by
  rcases Nat.lt_or_ge s 2 with h | h
  · omega
  · have := Nat.mul_le_mul_right s h
    omega
theorem o2Z_some (f : Int → Int → Int) (a b : Int) : o2Z f (some a) (some b) = fitZ (f a b) := rfl
theorem o2E_some (f : Int → Int → Int) (a b : Int) : o2E f (some a) (some b) = fitE (f a b) := rfl
theorem big_two : 2 < BIG := Nat.lt_of_lt_of_le (show 2 < 4294967296 ^ 1 by decide) (Nat.pow_le_pow_right (by decide) (by decide))
theorem sign_eq {a b : Int} (h : a = b) : Int.sign (a - b) = 0 := by rw [h, Int.sub_self]; rfl
theorem sign_lt {a b : Int} (h : a < b) : Int.sign (a - b) = -1 := Int.sign_eq_neg_one_of_neg (by omega)
theorem sign_gt {a b : Int} (h : b < a) : Int.sign (a - b) = 1 := Int.sign_eq_one_of_pos (by omega)

theorem squares_good (A : Option Addr) (n c : Nat) (xs : List Nat) (w : World) (h : Sl w w.heap.size A n c xs) (hv : vld false xs = true) (N s : Nat) (hN : val xs = N) (h1 : s * s ≤ N) (h2 : N < (s + 1) * (s + 1)) :
    Calls Try.prog 14 #[.agg #[.bool false, .slice A n c]] w fun e w' => e = .returned (.bool true) ∧ Below w.heap.size w w' := by
  have hlt : N < BIG := by rw [← hN]; exact (big_iff h.ok (vld_true hv).2.1).2 (vld_true hv).1
  have hs1 : s + 1 < BIG := root_one h1 hlt big_two
  have Oa : Hid (ov false xs = some (N : Int)) := by rw [Hid, ov_some hv, hN, sg_false]
  have ess : (s : Int) * (s : Int) = ((s * s : Nat) : Int) := by simp
  have et : ((s : Int) + 1) * ((s : Int) + 1) = (((s + 1) * (s + 1) : Nat) : Int) := by simp
  have enn : (N : Int) * (N : Int) = ((N * N : Nat) : Int) := by simp
  have f2 := fit_yes (z := (s : Int) * (s : Int)) (by rw [ess]; omega)
  have f3 := fit_yes (z := (s : Int) + 1) (by omega)
  have B1 : Hid ((s : Int).natAbs < BIG) := by rw [Hid]; omega
  have Z2 : Hid (o2Z (· * ·) (some (s : Int)) (some (s : Int)) = (s : Int) * (s : Int)) := f2.1
  have E2 : Hid (o2E (· * ·) (some (s : Int)) (some (s : Int)) = 0) := f2.2
  have B2 : Hid (((s : Int) * (s : Int)).natAbs < BIG) := by rw [Hid, ess]; omega
  have KO : Hid (∀ w : World, Calls Try.prog 18 #[.int .i64 1] w (RetI 1 w)) := fun w => of_any 1 w (by decide) (by decide)
  have BO : Hid ((1 : Int).natAbs < BIG) := Nat.lt_trans (by decide) big_two
  have Z3 : Hid (o2Z (· + ·) (some (s : Int)) (some 1) = (s : Int) + 1) := f3.1
  have E3 : Hid (o2E (· + ·) (some (s : Int)) (some 1) = 0) := f3.2
  have B3 : Hid (((s : Int) + 1).natAbs < BIG) := by rw [Hid]; omega
  have K6 : Hid ((fitE ((N : Int) * (N : Int)) != 0) = false → ∀ (w : World) (A : Option Addr) (n c : Nat) (zs : List Nat), Sl w w.heap.size A n c zs → Nz zs → val zs = (fitZ ((N : Int) * (N : Int))).natAbs → Calls Try.prog 37 #[.agg #[.bool (decide (fitZ ((N : Int) * (N : Int)) < 0)), .slice A n c]] w (RetSq (N : Int) true 0 w)) := by
    intro he w A n c zs hz nz hval
    have hb : ((N : Int) * (N : Int)).natAbs < BIG := by
      by_cases g : ((N : Int) * (N : Int)).natAbs < BIG
      · exact g
      · rw [(fit_no g).2] at he
        exact absurd he (by decide)
    rw [(fit_yes hb).1] at hval ⊢
    rw [enn] at hb hval ⊢
    rw [show decide (((N * N : Nat) : Int) < 0) = false from decide_eq_false (by omega)]
    have hv2 : val zs = N * N := by omega
    have hvl : vld false zs = true := vld_of hz.ok nz (by omega) (fun e => by cases e)
    have := sqrt_good A n c zs w hz hvl N (N * N) (N * N) 0 true hv2 (Nat.le_refl _) (by rw [Nat.add_mul, Nat.mul_add, Nat.one_mul, Nat.mul_one]; omega) rfl (cmpv_eq _) rfl
    rwa [sg_false] at this
  by_cases hq : s * s = N
  · have K1 : Hid (∀ w : World, Sl w w.heap.size A n c xs → Calls Try.prog 37 #[.agg #[.bool false, .slice A n c]] w (RetSq (s : Int) true 0 w)) := fun w hw => by
      have := sqrt_good A n c xs w hw hv s (s * s) N 0 true hN h1 h2 rfl (by rw [hq]; exact cmpv_eq _) rfl
      rwa [sg_false] at this
    have HC : Hid (Int.sign ((s : Int) * (s : Int) - (N : Int)) = 0) := sign_eq (by omega)
    by_cases hf : (s + 1) * (s + 1) < BIG
    · have f4 := fit_yes (z := ((s : Int) + 1) * ((s : Int) + 1)) (by rw [et]; omega)
      exact squares_b A n c xs w h _ _ _ _ _ _ _ _ hv Oa K1 B1 Z2 E2 B2 HC KO BO Z3 E3 B3 f4.1 f4.2 (by rw [Hid, et]; omega) (sign_gt (by omega)) (Lib.hid rfl) (Lib.hid rfl) K6
    · have f4 := fit_no (z := ((s : Int) + 1) * ((s : Int) + 1)) (by rw [et]; omega)
      exact squares_a A n c xs w h _ _ _ _ _ _ _ _ _ hv Oa K1 B1 Z2 E2 B2 HC KO BO Z3 E3 B3 f4.1 f4.2 big_gt (Lib.hid rfl) (Lib.hid rfl) (Lib.hid rfl) K6
  · have K1 : Hid (∀ w : World, Sl w w.heap.size A n c xs → Calls Try.prog 37 #[.agg #[.bool false, .slice A n c]] w (RetSq (s : Int) false 0 w)) := fun w hw => by
      have := sqrt_good A n c xs w hw hv s (s * s) N (-1) false hN h1 h2 rfl (cmpv_lt (by omega)) rfl
      rwa [sg_false] at this
    have HC : Hid (Int.sign ((s : Int) * (s : Int) - (N : Int)) = -1) := sign_lt (by omega)
    by_cases hf : (s + 1) * (s + 1) < BIG
    · have f4 := fit_yes (z := ((s : Int) + 1) * ((s : Int) + 1)) (by rw [et]; omega)
      exact squares_d A n c xs w h _ _ _ _ _ _ _ _ hv Oa K1 B1 Z2 E2 B2 HC KO BO Z3 E3 B3 f4.1 f4.2 (by rw [Hid, et]; omega) (sign_gt (by omega)) (Lib.hid rfl) (Lib.hid rfl) K6
    · have f4 := fit_no (z := ((s : Int) + 1) * ((s : Int) + 1)) (by rw [et]; omega)
      exact squares_c A n c xs w h _ _ _ _ _ _ _ _ _ hv Oa K1 B1 Z2 E2 B2 HC KO BO Z3 E3 B3 f4.1 f4.2 big_gt (Lib.hid rfl) (Lib.hid rfl) (Lib.hid rfl) K6

theorem integerSquares_any (neg : Bool) (A : Option Addr) (n c : Nat) (xs : List Nat) (w : World) (h : Sl w w.heap.size A n c xs) :
    Calls Try.prog 14 #[.agg #[.bool neg, .slice A n c]] w fun e w' => e = .returned (.bool true) ∧ Below w.heap.size w w' := by
  rcases hv : vld neg xs with _ | _
  · exact squares_bad neg A n c xs w h hv
  · cases neg
    · obtain ⟨s, h1, h2⟩ := root_of (val xs)
      exact squares_good A n c xs w h hv _ s rfl h1 h2
    · exact squares_neg A n c xs w h hv

end Go.Proofs.Ytalgcppogjpilaa
