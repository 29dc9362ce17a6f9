/-
  Stage 2: rational numbers in numbers: lowest terms, the arithmetic, how many bits it needs. No program.
-/
import Derived.Test.YtfodjaeknhomkaaRatB
namespace Go.Proofs.Ytfodjaeknhomkaa
open Go.RowKit
theorem ex_q {q r a c : Int} (h : q * c + r = a) (hr : r.natAbs < c.natAbs) (hd : c ∣ a) : q = a / c ∧ r = 0 := by
  have h0 : c ∣ r := by
    have : c ∣ a - q * c := Int.dvd_sub hd (Int.dvd_mul_left _ _)
    have e : a - q * c = r := by omega
    rwa [e] at this
  have hr0 : r = 0 := by
    rcases Int.natAbs_dvd_natAbs.2 h0 with ⟨k, hk⟩
    rcases Nat.eq_zero_or_pos k with rfl | hk0
    · omega
    · have := Nat.le_mul_of_pos_right c.natAbs hk0
      omega
  refine ⟨?_, hr0⟩
  subst hr0
  have hc : c ≠ 0 := by omega
  rw [← h, Int.add_zero, Int.mul_ediv_cancel _ hc]
theorem mk_num (a b : Int) (hb : b ≠ 0) : (b.sign * gcdZ a b ∣ a) ∧ (b.sign * gcdZ a b ∣ b) ∧ a / (b.sign * gcdZ a b) = (Rat.divInt a b).num ∧ b / (b.sign * gcdZ a b) = ((Rat.divInt a b).den : Int) ∧ b.sign * gcdZ a b ≠ 0 := by
  rw [Rat.num_divInt, Rat.den_divInt, if_neg hb]
  have e : ((b.gcd a : Nat) : Int) = gcdZ a b := by unfold gcdZ Int.gcd; rw [Nat.gcd_comm]
  have ha : gcdZ a b ∣ a := by unfold gcdZ; exact Int.ofNat_dvd_left.2 (Nat.gcd_dvd_left _ _)
  have hb' : gcdZ a b ∣ b := by unfold gcdZ; exact Int.ofNat_dvd_left.2 (Nat.gcd_dvd_right _ _)
  have hp : 0 < gcdZ a b := by
    unfold gcdZ
    have := Nat.gcd_pos_of_pos_right a.natAbs (n := b.natAbs) (by omega)
    omega
  rw [Int.natCast_ediv, e]
  generalize gcdZ a b = g at *
  rcases Int.lt_or_gt_of_ne hb with h | h
  · rw [Int.sign_eq_neg_one_of_neg h]
    have e1 : -1 * g = -g := by omega
    have e2 : -1 * a = -a := by omega
    rw [e1, e2, Int.ediv_neg, Int.ediv_neg, Int.neg_ediv_of_dvd ha, show ((b.natAbs : Nat) : Int) = -b by omega, Int.neg_ediv_of_dvd hb']
    exact ⟨Int.neg_dvd.2 ha, Int.neg_dvd.2 hb', rfl, rfl, by omega⟩
  · rw [Int.sign_eq_one_of_pos h, Int.one_mul, Int.one_mul, show ((b.natAbs : Nat) : Int) = b by omega]
    exact ⟨ha, hb', rfl, rfl, by omega⟩
/-- The rational number of two integers, if it is a valid one. -/
def rv : Option Int → Option Int → Option Rat
  | some a, some b => if 0 < b ∧ gcdZ a b = 1 then some (Rat.divInt a b) else none
  | _, _ => none
theorem rv_some {o o' : Option Int} {q : Rat} (h : rv o o' = some q) : o = some q.num ∧ o' = some (q.den : Int) := by
  rcases o with _ | a <;> rcases o' with _ | b <;> simp only [rv] at h <;> try cases h
  by_cases hc : 0 < b ∧ gcdZ a b = 1
  · rw [if_pos hc] at h
    injection h with h
    subst h
    have := mk_num a b (by omega)
    rw [hc.2, Int.sign_eq_one_of_pos hc.1, Int.one_mul] at this
    rw [← this.2.2.1, ← this.2.2.2.1]
    simp
  · rw [if_neg hc] at h; cases h
theorem rv_of (q : Rat) : rv (some q.num) (some (q.den : Int)) = some q := by
  have hd := q.den_nz
  have hg : gcdZ q.num q.den = 1 := by
    have := q.reduced
    unfold gcdZ
    rw [Int.natAbs_natCast]
    have : Nat.gcd q.num.natAbs q.den = 1 := this
    rw [this]; rfl
  unfold rv
  show (if 0 < (q.den : Int) ∧ gcdZ q.num q.den = 1 then some (Rat.divInt q.num q.den) else none) = some q
  rw [if_pos ⟨by omega, hg⟩, Rat.num_divInt_den]
theorem rv_iff {o o' : Option Int} {q : Rat} : rv o o' = some q ↔ o = some q.num ∧ o' = some (q.den : Int) :=
  ⟨rv_some, fun ⟨h, h'⟩ => by rw [h, h']; exact rv_of q⟩
theorem divInt_le (a b : Int) (hb : b ≠ 0) : (Rat.divInt a b).num.natAbs ≤ a.natAbs ∧ (Rat.divInt a b).den ≤ b.natAbs := by
  rw [Rat.num_divInt, Rat.den_divInt, if_neg hb]
  refine ⟨?_, Nat.div_le_self _ _⟩
  refine Nat.le_trans (Int.natAbs_ediv_le_natAbs _ _) ?_
  rw [Int.natAbs_mul, Int.natAbs_sign_of_ne_zero hb, Nat.one_mul]
  exact Nat.le_refl _
/-- Numerator and denominator have at most e bits. -/
def Bd (e : Nat) (q : Rat) : Prop := q.num.natAbs < pw e ∧ q.den < pw e
theorem Bd.mono {e f : Nat} {q : Rat} (h : Bd e q) (hf : e ≤ f) : Bd f q := ⟨Nat.lt_of_lt_of_le h.1 (pw_le hf), Nat.lt_of_lt_of_le h.2 (pw_le hf)⟩
theorem pmul_bd {x y e f : Nat} (hx : x < pw e) (hy : y < pw f) : x * y < pw (e + f) := by
  rw [pw_add]; exact Nat.mul_lt_mul'' hx hy
theorem two_bd {x y z : Int} {e : Nat} (hx : x.natAbs < pw e) (hy : y.natAbs < pw e) (hz : z = x + y ∨ z = x - y) : z.natAbs < pw (e + 1) := by
  rw [pw_add]; show _ < pw e * 2; omega
theorem imul_bd {x y : Int} {e f : Nat} (hx : x.natAbs < pw e) (hy : y.natAbs < pw f) : (x * y).natAbs < pw (e + f) := by
  rw [Int.natAbs_mul]; exact pmul_bd hx hy
theorem Bd.divInt {a b : Int} {e : Nat} (hb : b ≠ 0) (h1 : a.natAbs < pw e) (h2 : b.natAbs < pw e) : Bd e (Rat.divInt a b) := by
  have := divInt_le a b hb
  exact ⟨by omega, by omega⟩
theorem den_ne (q : Rat) : (q.den : Int) ≠ 0 := by have := q.den_nz; omega
theorem den2_ne (q r : Rat) : (q.den : Int) * (r.den : Int) ≠ 0 := Int.mul_ne_zero (den_ne q) (den_ne r)
theorem rat_add (q r : Rat) : Rat.divInt (q.num * r.den + r.num * q.den) ((q.den : Int) * r.den) = q + r := by
  rw [← Int.natCast_mul, Rat.divInt_ofNat, Rat.add_def']
theorem rat_sub (q r : Rat) : Rat.divInt (q.num * r.den - r.num * q.den) ((q.den : Int) * r.den) = q - r := by
  rw [← Int.natCast_mul, Rat.divInt_ofNat, Rat.sub_def']
theorem rat_mul (q r : Rat) : Rat.divInt (q.num * r.num) ((q.den : Int) * r.den) = q * r := by
  rw [← Int.natCast_mul, Rat.divInt_ofNat, Rat.mul_def']
theorem rat_div (q r : Rat) : Rat.divInt (q.num * r.den) ((q.den : Int) * r.num) = q / r := by
  rw [← Rat.divInt_mul_divInt q.num r.den, Rat.num_divInt_den, Rat.div_def, Rat.inv_def]
theorem Bd.num {e : Nat} {q : Rat} (h : Bd e q) : q.num.natAbs < pw e := h.1
theorem Bd.den {e : Nat} {q : Rat} (h : Bd e q) : (q.den : Int).natAbs < pw e := by rw [Int.natAbs_natCast]; exact h.2
theorem Bd.add {e f : Nat} {q r : Rat} (h : Bd e q) (k : Bd f r) : Bd (e + f + 1) (q + r) := by
  rw [← rat_add]
  refine Bd.divInt (den2_ne q r) (two_bd (imul_bd h.num k.den) (by rw [Nat.add_comm]; exact imul_bd k.num h.den) (Or.inl rfl)) ?_
  exact Nat.lt_of_lt_of_le (imul_bd h.den k.den) (pw_le (by omega))
theorem Bd.sub {e f : Nat} {q r : Rat} (h : Bd e q) (k : Bd f r) : Bd (e + f + 1) (q - r) := by
  rw [← rat_sub]
  refine Bd.divInt (den2_ne q r) (two_bd (imul_bd h.num k.den) (by rw [Nat.add_comm]; exact imul_bd k.num h.den) (Or.inr rfl)) ?_
  exact Nat.lt_of_lt_of_le (imul_bd h.den k.den) (pw_le (by omega))
theorem Bd.mul {e f : Nat} {q r : Rat} (h : Bd e q) (k : Bd f r) : Bd (e + f) (q * r) := by
  rw [← rat_mul]
  exact Bd.divInt (den2_ne q r) (imul_bd h.num k.num) (imul_bd h.den k.den)
theorem big_le {z : Int} {e : Nat} (h : z.natAbs < pw e) (he : e ≤ 4096) : z.natAbs < BIG := by
  rw [big_pw]; exact Nat.lt_of_lt_of_le h (pw_le he)
end Go.Proofs.Ytfodjaeknhomkaa
