/-
  Decimal digits: the text of a number, and the number of a text. Plain mathematics.
-/
import Derived.Test.YtalgcppogjpilaaNat
namespace Go.Proofs.Ytalgcppogjpilaa

/-- The byte of a digit. -/
def dgt (d : Nat) : UInt8 := UInt8.ofNat (48 + d % 10)
/-- The decimal digits, the highest first; none of 0. -/
def dec (N : Nat) : List UInt8 := if _h : N = 0 then [] else dec (N / 10) ++ [dgt N]
termination_by N
decreasing_by omega
theorem dec_zero : dec 0 = [] := by rw [dec, dif_pos rfl]
theorem dec_step {N : Nat} (h : N ≠ 0) : dec N = dec (N / 10) ++ [dgt N] := by rw [dec, dif_neg h]
theorem dgt_val (d : Nat) : (dgt d).toNat = 48 + d % 10 := by
  unfold dgt
  rw [UInt8.toNat_ofNat']
  omega
/-- The text of an integer. -/
def decT (z : Int) : List UInt8 := if z = 0 then [48] else (if z < 0 then [45] else []) ++ dec z.natAbs

/-- The number of digits. -/
def dnum (l : List UInt8) : Nat := l.foldl (fun n c => 10 * n + (c.toNat - 48)) 0
theorem dnum_nil : dnum [] = 0 := rfl
theorem dnum_snoc (l : List UInt8) (c : UInt8) : dnum (l ++ [c]) = 10 * dnum l + (c.toNat - 48) := by unfold dnum; rw [List.foldl_append]; rfl
theorem dnum_from (l : List UInt8) (a : Nat) : l.foldl (fun n c => 10 * n + (c.toNat - 48)) a = a * 10 ^ l.length + dnum l := by
  induction l generalizing a with
  | nil => simp [dnum]
  | cons c l ih =>
    rw [dnum, List.foldl_cons, List.foldl_cons, ih, ih (10 * 0 + (c.toNat - 48)), List.length_cons, Nat.pow_succ, Nat.add_mul, Nat.mul_zero, Nat.zero_add, Nat.mul_comm 10 a, Nat.mul_assoc, Nat.mul_comm 10 (10 ^ l.length)]
    omega
theorem dnum_app (l m : List UInt8) : dnum (l ++ m) = dnum l * 10 ^ m.length + dnum m := by
  rw [dnum, List.foldl_append, dnum_from]; rfl
/-- A byte is a digit. -/
def isD (c : UInt8) : Bool := decide (48 ≤ c.toNat) && decide (c.toNat ≤ 57)
theorem isD_iff (c : UInt8) : isD c = true ↔ 48 ≤ c.toNat ∧ c.toNat ≤ 57 := by simp [isD]
theorem dnum_lt {l : List UInt8} (h : ∀ c ∈ l, isD c = true) : dnum l < 10 ^ l.length := by
  induction l with
  | nil => simp [dnum]
  | cons c l ih =>
    have a := ih (fun x hx => h x (by simp [hx]))
    have b := (isD_iff c).1 (h c (by simp))
    have e : dnum (c :: l) = (c.toNat - 48) * 10 ^ l.length + dnum l := by
      have := dnum_app [c] l
      rw [List.singleton_append] at this
      rw [this]; simp [dnum]
    rw [e, List.length_cons, Nat.pow_succ]
    have : (c.toNat - 48) * 10 ^ l.length ≤ 9 * 10 ^ l.length := Nat.mul_le_mul_right _ (by omega)
    omega
theorem dnum_pos {c : UInt8} {l : List UInt8} (hc : isD c = true) (h0 : c ≠ 48) : 10 ^ l.length ≤ dnum (c :: l) := by
  have e : dnum (c :: l) = (c.toNat - 48) * 10 ^ l.length + dnum l := by
    have := dnum_app [c] l
    rw [List.singleton_append] at this
    rw [this]; simp [dnum]
  have b := (isD_iff c).1 hc
  have : c.toNat ≠ 48 := fun e => h0 (UInt8.toNat_inj.1 (by rw [e]; rfl))
  have : 1 * 10 ^ l.length ≤ (c.toNat - 48) * 10 ^ l.length := Nat.mul_le_mul_right _ (by omega)
  omega

/-- Digits without a leading zero, or a zero alone. -/
def canon (l : List UInt8) : Bool := !l.isEmpty && (!(l.head? == some 48) || l == [48]) && l.all isD

theorem dec_digits (N : Nat) : ∀ c ∈ dec N, isD c = true := by
  induction N using Nat.strongRecOn with
  | _ N ih =>
    by_cases h : N = 0
    · rw [h, dec_zero]; intro c hc; cases hc
    · rw [dec_step h]
      intro c hc
      rcases List.mem_append.1 hc with hc | hc
      · exact ih (N / 10) (by omega) c hc
      · rw [List.mem_singleton.1 hc, isD_iff, dgt_val]; omega
theorem dec_num (N : Nat) : dnum (dec N) = N := by
  induction N using Nat.strongRecOn with
  | _ N ih =>
    by_cases h : N = 0
    · rw [h, dec_zero]; rfl
    · rw [dec_step h, dnum_snoc, ih (N / 10) (by omega), dgt_val]; omega
theorem dec_head {N : Nat} (h : N ≠ 0) : ∃ c l, dec N = c :: l ∧ c ≠ 48 := by
  induction N using Nat.strongRecOn with
  | _ N ih =>
    rw [dec_step h]
    by_cases h1 : N / 10 = 0
    · rw [h1, dec_zero]
      refine ⟨dgt N, [], rfl, fun e => ?_⟩
      have := congrArg UInt8.toNat e
      rw [dgt_val] at this
      have h48 : (48 : UInt8).toNat = 48 := rfl
      omega
    · obtain ⟨c, l, e, hc⟩ := ih (N / 10) (by omega) h1
      exact ⟨c, l ++ [dgt N], by rw [e]; rfl, hc⟩
theorem num_dec {l : List UInt8} (h : ∀ c ∈ l, isD c = true) (h0 : l.head? ≠ some 48) : dec (dnum l) = l := by
  induction hn : l.length generalizing l with
  | zero => rw [List.eq_nil_of_length_eq_zero hn]; exact dec_zero
  | succ n ih =>
    rcases List.eq_nil_or_concat l with rfl | ⟨m, c, rfl⟩
    · simp at hn
    · have hm : m.length = n := by simp at hn; exact hn
      have hc := (isD_iff c).1 (h c (by simp))
      have hh : m.head? ≠ some 48 := by
        cases m with
        | nil => simp
        | cons a m => simpa using h0
      have e := ih (l := m) (fun x hx => h x (by simp [hx])) hh hm
      rw [List.concat_eq_append] at *
      rw [dnum_snoc]
      have hne : 10 * dnum m + (c.toNat - 48) ≠ 0 := by
        cases m with
        | nil =>
          intro e
          have : c.toNat = 48 := by omega
          apply h0
          simp
          exact UInt8.toNat_inj.1 this
        | cons a m =>
          have := dnum_pos (l := m) (h a (by simp)) (fun e => h0 (by rw [e]; rfl))
          have : 0 < 10 ^ m.length := Nat.pow_pos (by decide)
          omega
      rw [dec_step hne, show (10 * dnum m + (c.toNat - 48)) / 10 = dnum m by omega, e]
      congr 2
      apply UInt8.toNat_inj.1
      rw [dgt_val]; omega

end Go.Proofs.Ytalgcppogjpilaa
