/-
  DivMod for any two integers; what its quotient and remainder are.
-/
import Derived.Test.YtalgcppogjpilaaDivLong
import Derived.Test.YtalgcppogjpilaaDivMod
import Derived.Test.YtalgcppogjpilaaChain
namespace Go.Proofs.Ytalgcppogjpilaa
open Go.RowKit

/-- The quotient, rounded down, and the remainder. -/
def fq (a b : Int) : Int := dq (decide (a < 0)) (decide (b < 0)) a.natAbs b.natAbs
def fr (a b : Int) : Int := dr (decide (a < 0)) (decide (b < 0)) a.natAbs b.natAbs

theorem sg_self (z : Int) : sg (decide (z < 0)) z.natAbs = z := sg_dec rfl
theorem dq_spec (neg neg' : Bool) (a b : Nat) (hb : 0 < b) : dq neg neg' a b * sg neg' b + dr neg neg' a b = sg neg a ∧ (dr neg neg' a b).natAbs < b ∧ (dr neg neg' a b = 0 ∨ Int.sign (dr neg neg' a b) = Int.sign (sg neg' b)) ∧ (dq neg neg' a b).natAbs ≤ a := by
  have dm := Nat.div_add_mod a b
  have ml := Nat.mod_lt a hb
  have qle := Nat.div_le_self a b
  have qlt : 0 < a % b → a / b + 1 ≤ a := by
    intro h
    rcases Nat.lt_or_ge 1 b with h1 | h1
    · rcases Nat.eq_zero_or_pos (a / b) with h2 | h2
      · have : 0 < a := by
          rcases Nat.eq_zero_or_pos a with h3 | h3
          · subst h3; simp at h
          · exact h3
        omega
      · have := Nat.mul_le_mul_right (a / b) h1
        omega
    · have : b = 1 := by omega
      subst this
      omega
  generalize hq : a / b = q at *
  generalize hr : a % b = r at *
  have e : (b : Int) * (q : Int) + (r : Int) = (a : Int) := by exact_mod_cast dm
  have sb : Int.sign (b : Int) = 1 := Int.sign_eq_one_of_pos (by omega)
  have sb' : Int.sign (-(b : Int)) = -1 := by rw [Int.sign_neg, sb]
  have sr : 0 < r → Int.sign (r : Int) = 1 := fun h => Int.sign_eq_one_of_pos (by omega)
  rcases Nat.eq_zero_or_pos r with h0 | h0
  · unfold dq dr
    rw [hq, hr, if_neg (by omega), if_neg (by omega)]
    subst h0
    have e0 : (b : Int) * (q : Int) = (a : Int) := by simpa using e
    cases neg <;> cases neg' <;> simp only [sg_true, sg_false, bne_self_eq_false, Bool.bne_true, Bool.bne_false, Bool.not_false] <;>
      refine ⟨?_, by simp; omega, .inl (by simp), by simp; omega⟩
    · rw [Int.mul_comm]; simp [e0]
    · rw [Int.neg_mul_neg, Int.mul_comm]; simp [e0]
    · rw [Int.neg_mul, Int.mul_comm]; simp [e0]
    · rw [Int.mul_neg, Int.mul_comm]; simp [e0]
  · cases neg <;> cases neg'
    · unfold dq dr
      rw [hq, hr, if_neg (by simp), if_neg (by simp)]
      simp only [sg_false, bne_self_eq_false]
      exact ⟨by rw [Int.mul_comm]; exact e, by omega, .inr (by rw [sr h0, sb]), by omega⟩
    · unfold dq dr
      rw [hq, hr, if_pos ⟨rfl, h0⟩, if_pos ⟨rfl, h0⟩]
      simp only [sg_true, sg_false]
      refine ⟨?_, by omega, .inr ?_, by have := qlt h0; omega⟩
      · rw [Int.neg_mul_neg, Int.natCast_add, Int.add_mul, Int.mul_comm (q : Int)]
        simp only [Int.natCast_one, Int.one_mul]
        omega
      · rw [Int.sign_neg, Int.sign_neg, sb, Int.sign_eq_one_of_pos (by omega)]
    · unfold dq dr
      rw [hq, hr, if_pos ⟨rfl, h0⟩, if_pos ⟨rfl, h0⟩]
      simp only [sg_true, sg_false]
      refine ⟨?_, by omega, .inr ?_, by have := qlt h0; omega⟩
      · rw [Int.neg_mul, Int.natCast_add, Int.add_mul, Int.mul_comm (q : Int)]
        simp only [Int.natCast_one, Int.one_mul]
        omega
      · rw [sb, Int.sign_eq_one_of_pos (by omega)]
    · unfold dq dr
      rw [hq, hr, if_neg (by simp), if_neg (by simp)]
      simp only [sg_true, sg_false, bne_self_eq_false]
      exact ⟨by rw [Int.mul_neg, Int.mul_comm]; omega, by omega, .inr (by rw [sb', Int.sign_neg, sr h0]), by omega⟩

theorem fq_spec (a b : Int) (hb : b ≠ 0) : fq a b * b + fr a b = a ∧ (fr a b).natAbs < b.natAbs ∧ (fr a b = 0 ∨ Int.sign (fr a b) = Int.sign b) ∧ (fq a b).natAbs ≤ a.natAbs := by
  have := dq_spec (decide (a < 0)) (decide (b < 0)) a.natAbs b.natAbs (by omega)
  rwa [sg_self, sg_self] at this

/-- A division: what it answers for any two integers. -/
def dvQ : Option Int → Option Int → Int
  | some a, some b => if b = 0 then 0 else fq a b
  | _, _ => 0
def dvR : Option Int → Option Int → Int
  | some a, some b => if b = 0 then 0 else fr a b
  | _, _ => 0
def dvE : Option Int → Option Int → Int
  | some _, some b => if b = 0 then 4 else 0
  | _, _ => 1

theorem dvQ_some (a b : Int) : dvQ (some a) (some b) = if b = 0 then 0 else fq a b := rfl
theorem dvR_some (a b : Int) : dvR (some a) (some b) = if b = 0 then 0 else fr a b := rfl
theorem dvE_some (a b : Int) : dvE (some a) (some b) = if b = 0 then 4 else 0 := rfl

theorem ov_lt {neg : Bool} {xs : List Nat} (hx : Ok xs) {a : Int} (h : ov neg xs = some a) : a.natAbs < BIG := by
  rcases hv : vld neg xs with _ | _
  · rw [ov_none hv] at h; cases h
  · rw [ov_some hv] at h
    injection h with h
    rw [← h, sg_abs]
    have v := vld_true hv
    exact (big_iff hx v.2.1).2 v.1
theorem sg_sign {neg : Bool} {xs : List Nat} (hv : vld neg xs = true) : decide (sg neg (val xs) < 0) = neg := by
  have v := vld_true hv
  cases neg
  · rw [sg_false]; simp
  · have : 0 < val xs := val_pos v.2.1 (fun e => by have := v.2.2 e; cases this)
    rw [sg_true]; simp; omega
theorem dv_lt {oa ob : Option Int} (ha : ∀ a, oa = some a → a.natAbs < BIG) (hb : ∀ b, ob = some b → b.natAbs < BIG) : (dvQ oa ob).natAbs < BIG ∧ (dvR oa ob).natAbs < BIG := by
  rcases oa with _ | a <;> rcases ob with _ | b
  · exact ⟨big_gt, big_gt⟩
  · exact ⟨big_gt, big_gt⟩
  · exact ⟨big_gt, big_gt⟩
  · rw [dvQ_some, dvR_some]
    by_cases h : b = 0
    · rw [if_pos h, if_pos h]; exact ⟨big_gt, big_gt⟩
    · rw [if_neg h, if_neg h]
      have s := fq_spec a b h
      exact ⟨Nat.lt_of_le_of_lt s.2.2.2 (ha a rfl), Nat.lt_trans s.2.1 (hb b rfl)⟩

theorem divMod_ov {neg neg' : Bool} {A A' : Option Addr} {n c n' c' : Nat} {xs ys : List Nat} {w : World} (h : Sl w w.heap.size A n c xs) (h' : Sl w w.heap.size A' n' c' ys) :
    Calls Try.prog 31 #[.agg #[.bool neg, .slice A n c], .agg #[.bool neg', .slice A' n' c']] w (RetI2E (dvQ (ov neg xs) (ov neg' ys)) (dvR (ov neg xs) (ov neg' ys)) (dvE (ov neg xs) (ov neg' ys)) w) := by
  rcases hv : vld neg xs with _ | _
  · rw [ov_none hv]
    exact divMod_bad1 neg neg' A A' n c n' c' xs ys w h h' hv
  · rcases hv' : vld neg' ys with _ | _
    · rw [ov_none hv', ov_some hv]
      exact divMod_bad2 neg neg' A A' n c n' c' xs ys w h h' hv hv'
    · have v := vld_true hv
      have v' := vld_true hv'
      rw [ov_some hv, ov_some hv']
      by_cases h0 : ys = []
      · have e : sg neg' (val ys) = 0 := by rw [h0, v'.2.2 h0, sg_false, val_nil]; rfl
        rw [dvQ_some, dvR_some, dvE_some]
        rw [if_pos e, if_pos e, if_pos e]
        exact divMod_zero neg neg' A A' n c n' c' xs ys w h h' hv hv' h0
      · have hp := val_pos v'.2.1 h0
        have e : ¬ sg neg' (val ys) = 0 := by
          intro e
          have := congrArg Int.natAbs e
          rw [sg_abs] at this
          simp at this; omega
        rw [dvQ_some, dvR_some, dvE_some]
        rw [if_neg e, if_neg e, if_neg e]
        have hd := divMod_good neg neg' A A' n c n' c' xs ys w h h' hv hv' h0 (divSpec_all xs ys v.2.1 v'.2.1 h.ok h0 (by omega))
        unfold fq fr
        rw [sg_sign hv, sg_sign hv', sg_abs, sg_abs]
        exact hd

end Go.Proofs.Ytalgcppogjpilaa
