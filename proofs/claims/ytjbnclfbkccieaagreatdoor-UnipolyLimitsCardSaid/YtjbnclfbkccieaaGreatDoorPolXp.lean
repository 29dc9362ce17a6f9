/-
  Stage 3: powers of x, their products and compositions, with the limit of the degree.
-/
import Derived.Test.YtjbnclfbkccieaaGreatDoorBehind3
import Derived.Test.YtjbnclfbkccieaaGreatDoorPolBi
namespace Go.Proofs.YtjbnclfbkccieaaGreatDoor
def xp (a : Nat) : List Rat := (List.range (a + 1)).map fun i => if i = a then 1 else 0
theorem xp_coef (a i : Nat) : coef (xp a) i = if i = a then 1 else 0 := by
  unfold xp
  rw [coef_map_range]
  by_cases h : i = a
  · rw [if_pos (by omega), if_pos h]
  · rw [if_neg h]
    split <;> rfl
theorem xp_len (a : Nat) : (xp a).length = a + 1 := by unfold xp; rw [List.length_map, List.length_range]
theorem xp_eq (k : Nat) : xp k = List.replicate k 0 ++ [1] := by
  unfold xp
  rw [List.range_succ, List.map_append, List.map_singleton, if_pos rfl]
  congr 1
  refine List.eq_replicate_iff.2 ⟨by rw [List.length_map, List.length_range], fun x hx => ?_⟩
  obtain ⟨i, hi, rfl⟩ := List.mem_map.1 hx
  rw [if_neg (by have := List.mem_range.1 hi; omega)]
theorem xp_trim (a : Nat) : ptrim (xp a) = xp a := trim_iff.2 (Or.inr (by rw [xp_len, xp_coef, if_pos (by omega)]; decide))
theorem xp_ib (a : Nat) : IbL 1 (xp a) := fun i => by
  rw [xp_coef]
  split
  · exact ⟨1, rfl, by decide⟩
  · exact Ib.zero _
theorem xp_mul (a b : Nat) : pmul (xp a) (xp b) = xp (a + b) := by
  refine ptrim_self (pmul_trim (xp_trim a) (xp_trim b)) (xp_trim _) fun i => ?_
  rw [pmul_coef, cv_congr (a' := fun j => if j = a then 1 else 0) (b' := coef (xp b)) (fun j _ => xp_coef a j) (fun _ _ => rfl), cv_delta, xp_coef]
  by_cases h : a ≤ i
  · rw [if_pos h, xp_coef]
    by_cases g : i = a + b
    · rw [if_pos g, if_pos (by omega)]; grind
    · rw [if_neg g, if_neg (by omega)]; grind
  · rw [if_neg h, xp_coef, if_neg (by omega)]
theorem xp_mulO (a b : Nat) : pmulO (xp a) (xp b) = if 64 < a + b then .error 2 else .ok (xp (a + b)) := by
  by_cases h : 64 < a + b
  · rw [if_pos h]
    unfold pmulO
    rw [if_neg (by rw [xp_len, xp_len]; omega), if_pos (by rw [xp_len, xp_len]; omega)]
  · rw [if_neg h, (pmulO_ok (xp_ib a) (xp_ib b) (n := 65) (by rw [xp_len]; omega) (by rw [xp_len, xp_len]; omega) (by decide +kernel)).1, xp_mul]
theorem xp_add0 (m : Nat) : combO addO (xp m) [0] = .ok (xp m) := by
  rw [(addL_ok (xp_ib m) (coef_one' (Ib.zero 1)) (by decide +kernel)).1]
  refine congrArg Except.ok (ptrim_self (padd_trim _ _) (xp_trim m) fun i => ?_)
  rw [padd_coef]
  have : coef [(0 : Rat)] i = 0 := by
    cases i with
    | zero => rfl
    | succ i => rw [coef_succ, coef_nil]
  rw [this]; grind
theorem xp_compO (c d : Nat) : compO (xp c) (xp d) = if 64 < c * d then .error 2 else .ok (xp (c * d)) := by
  unfold compO
  rw [xp_len, xp_len]
  by_cases h : 64 < c * d
  · rw [if_pos h, if_pos (by refine ⟨by omega, by omega, ?_⟩; simpa using h)]
  · rw [if_neg h, if_neg (by intro k; exact h (by simpa using k.2.2))]
    have key : ∀ k, k ≤ c → stepsO (fun i r => thenO (pmulO r (xp d)) fun t => combO addO t [coef (xp c) (c + 1 - 1 - i)]) [] (k + 1) = .ok (xp (k * d)) := by
      intro k
      induction k with
      | zero =>
        intro _
        rw [stepsO_succ, thenO_ok (show stepsO _ _ 0 = .ok [] from rfl), thenO_ok (show pmulO [] (xp d) = .ok [] from rfl), xp_coef, if_pos (by omega), Nat.zero_mul]
        kernel_rfl
      | succ k ih =>
        intro hk
        have hd : (k + 1) * d = k * d + d := Nat.succ_mul _ _
        have hle : (k + 1) * d ≤ c * d := Nat.mul_le_mul_right d hk
        rw [stepsO_succ, thenO_ok (ih (by omega)), thenO_ok (show pmulO (xp (k * d)) (xp d) = .ok (xp (k * d + d)) by rw [xp_mulO, if_neg (by omega)]), xp_coef, if_neg (by omega), xp_add0, hd]
    exact key c (Nat.le_refl _)
end Go.Proofs.YtjbnclfbkccieaaGreatDoor
