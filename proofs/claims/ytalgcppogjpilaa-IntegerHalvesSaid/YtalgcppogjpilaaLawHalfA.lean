/-
  IntegerHalves returns true, for any integer, valid or not, and any count.
-/
import Derived.Test.YtalgcppogjpilaaLawHalf1
namespace Go.Proofs.Ytalgcppogjpilaa
open Go.RowKit

theorem pw_lt {a b : Nat} (h : a < b) : pw a < pw b := Nat.pow_lt_pow_right (by decide) h
theorem mask_low (s : Int) : ∃ k : Nat, k ≤ 4095 ∧ bits .and .i64 s 4095 = (k : Int) := by
  have hle : (BitVec.ofInt 64 s &&& BitVec.ofInt 64 (4095 : Int)).toNat ≤ 4095 := by
    rw [BitVec.toNat_and]
    exact Nat.and_le_right
  refine ⟨(BitVec.ofInt 64 s &&& BitVec.ofInt 64 (4095 : Int)).toNat, hle, ?_⟩
  show IntKind.i64.wrap ((BitVec.ofInt 64 s &&& BitVec.ofInt 64 (4095 : Int)).toNat : Int) = _
  exact IntWalk.i64_in _ (by omega)

theorem fq_pos {a b : Int} (hb : 0 < b) : fq a b = a / b := by
  have s := fq_spec a b (by omega)
  have h1 : 0 ≤ fr a b := by
    rcases s.2.2.1 with h | h
    · omega
    · rw [Int.sign_eq_one_of_pos hb] at h
      exact Int.le_of_lt (Int.sign_eq_one_iff_pos.1 h)
  symm
  rw [Int.ediv_eq_iff_of_pos hb]
  have e := s.1
  have l := s.2.1
  generalize fq a b * b = p at *
  omega
theorem shf_up (z : Int) (k : Nat) : shf z (k : Int) = z * ((pw k : Nat) : Int) := by
  unfold shf; rw [if_pos (by omega), Int.toNat_natCast]
theorem shf_down (z : Int) (k : Nat) : shf z (-(k : Int)) = z / ((pw k : Nat) : Int) := by
  unfold shf
  by_cases h : 0 ≤ -(k : Int)
  · obtain rfl : k = 0 := by omega
    rw [if_pos h]
    show z * ((pw 0 : Nat) : Int) = _
    simp [pw]
  · rw [if_neg h, show (-(-(k : Int))).toNat = k by omega]
theorem oZ_some (f : Int → Int) (a : Int) : oZ f (some a) = fitZ (f a) := rfl
theorem oE_some (f : Int → Int) (a : Int) : oE f (some a) = fitE (f a) := rfl
theorem oZ_lt (f : Int → Int) (o : Option Int) : (oZ f o).natAbs < BIG := by
  rcases o with _ | a
  · exact big_gt
  · exact fitZ_lt _

set_option maxHeartbeats 400000 in
theorem integerHalves_any (neg : Bool) (A : Option Addr) (n c : Nat) (xs : List Nat) (s : Int) (w : World) (h : Sl w w.heap.size A n c xs) :
    Calls Try.prog 15 #[.agg #[.bool neg, .slice A n c], .int .i64 s] w fun e w' => e = .returned (.bool true) ∧ Below w.heap.size w w' := by
  obtain ⟨k, hk, hs⟩ := mask_low s
  rcases hv : vld neg xs with _ | _
  · exact halves_bad neg A n c xs w h s k hs hv
  · have oa := ov_some hv
    generalize ha : sg neg (val xs) = a at oa
    have la := ov_lt h.ok oa
    have pk := pw_pos k
    have d := div_nat_lt la pk
    have fd := fit_yes d
    have plt : pw k < BIG := by
      rw [big_pw]
      exact pw_lt (by omega)
    have hp1 : fitZ (shf 1 (k : Int)) = ((pw k : Nat) : Int) ∧ fitE (shf 1 (k : Int)) = 0 := by
      rw [shf_up, Int.one_mul]; exact fit_yes (by rw [Int.natAbs_natCast]; exact plt)
    have fqv : fq a ((pw k : Nat) : Int) = a / ((pw k : Nat) : Int) := fq_pos (by omega)
    have hne : ¬ ((pw k : Nat) : Int) = 0 := by omega
    have Z3 : oZ (shf · (k : Int)) (some 1) = ((pw k : Nat) : Int) := hp1.1
    have Z4 : oZ (shf · (-(k : Int))) (some a) = a / ((pw k : Nat) : Int) := by rw [oZ_some, shf_down]; exact fd.1
    have E4 : oE (shf · (-(k : Int))) (some a) = 0 := by rw [oE_some, shf_down]; exact fd.2
    have ZQ : dvQ (some a) (some ((pw k : Nat) : Int)) = a / ((pw k : Nat) : Int) := by rw [dvQ_some, if_neg hne, fqv]
    have ER : dvE (some a) (some ((pw k : Nat) : Int)) = 0 := by rw [dvE_some, if_neg hne]
    have B3 : (((pw k : Nat) : Int)).natAbs < BIG := by rw [Int.natAbs_natCast]; exact plt
    have one : (1 : Int).natAbs < BIG := Nat.lt_of_le_of_lt (show (1 : Int).natAbs ≤ pw k from pk) plt
    by_cases hb : (a * ((pw k : Nat) : Int)).natAbs < BIG
    · have f1 := fit_yes hb
      have Z1 : oZ (shf · (k : Int)) (some a) = a * ((pw k : Nat) : Int) := by rw [oZ_some, shf_up]; exact f1.1
      have E1 : oE (shf · (k : Int)) (some a) = 0 := by rw [oE_some, shf_up]; exact f1.2
      have back : a * ((pw k : Nat) : Int) / ((pw k : Nat) : Int) = a := Int.mul_ediv_cancel _ hne
      have f2 := fit_yes la
      have Z2 : oZ (shf · (-(k : Int))) (some (a * ((pw k : Nat) : Int))) = a := by rw [oZ_some, shf_down, back]; exact f2.1
      have E2 : oE (shf · (-(k : Int))) (some (a * ((pw k : Nat) : Int))) = 0 := by rw [oE_some, shf_down, back]; exact f2.2
      exact halves_fit neg A n c xs w h s k hs hk a _ _ 1 _ _ _ oa hv Z1 E1 hb Z2 E2 (fun w => of_any 1 w (by omega) (by omega)) one Z3 hp1.2 B3 ZQ rfl ER Z4 E4 rfl
    · have f1 := fit_no hb
      have Z1 : oZ (shf · (k : Int)) (some a) = 0 := by rw [oZ_some, shf_up]; exact f1.1
      have E1 : oE (shf · (k : Int)) (some a) = 2 := by rw [oE_some, shf_up]; exact f1.2
      have E2 : oE (shf · (-(k : Int))) (some 0) = 0 := by
        rw [oE_some, shf_down, Int.zero_ediv]
        exact (fit_yes (z := 0) big_gt).2
      exact halves_big neg A n c xs w h s k hs hk a _ _ 1 _ _ _ oa hv Z1 E1 big_gt rfl E2 (fun w => of_any 1 w (by omega) (by omega)) one Z3 hp1.2 B3 ZQ rfl ER Z4 E4

end Go.Proofs.Ytalgcppogjpilaa
