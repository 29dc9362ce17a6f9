/-
  IntegerEuclid returns true, for any three integers, valid or not.
-/
import Derived.Test.YtalgcppogjpilaaLawEuc
namespace Go.Proofs.Ytalgcppogjpilaa
open Go.RowKit

theorem o2_ok {f : Int → Int → Int} {a b : Int} (h : (o2E f (some a) (some b) != 0) = false) : o2Z f (some a) (some b) = f a b ∧ (f a b).natAbs < BIG := by
  by_cases hb : (f a b).natAbs < BIG
  · exact ⟨(fit_yes hb).1, hb⟩
  · have e : o2E f (some a) (some b) = 2 := (fit_no hb).2
    rw [e] at h
    exact absurd h (by decide)
/-- A remainder has the divisors of the first number. -/
theorem gcdZ_rem {a b q r : Int} (h : q * b + r = a) : gcdZ b r = gcdZ a b := by
  unfold gcdZ
  have e : Nat.gcd b.natAbs r.natAbs = Nat.gcd a.natAbs b.natAbs := by
    apply Nat.dvd_antisymm
    · have d1 : ((Nat.gcd b.natAbs r.natAbs : Nat) : Int) ∣ b := Int.ofNat_dvd_left.2 (Nat.gcd_dvd_left _ _)
      have d2 : ((Nat.gcd b.natAbs r.natAbs : Nat) : Int) ∣ r := Int.ofNat_dvd_left.2 (Nat.gcd_dvd_right _ _)
      refine Nat.dvd_gcd (Int.ofNat_dvd_left.1 ?_) (Nat.gcd_dvd_left _ _)
      rw [← h]; exact Int.dvd_add (Int.dvd_mul_of_dvd_right d1) d2
    · have d1 : ((Nat.gcd a.natAbs b.natAbs : Nat) : Int) ∣ a := Int.ofNat_dvd_left.2 (Nat.gcd_dvd_left _ _)
      have d2 : ((Nat.gcd a.natAbs b.natAbs : Nat) : Int) ∣ b := Int.ofNat_dvd_left.2 (Nat.gcd_dvd_right _ _)
      refine Nat.dvd_gcd (Nat.gcd_dvd_right _ _) (Int.ofNat_dvd_left.1 ?_)
      have e : r = a - q * b := by omega
      rw [e]; exact Int.dvd_sub d1 (Int.dvd_mul_of_dvd_right d2)
  rw [e]
/-- What divides leaves no remainder. -/
theorem fr_zero {a g : Int} (h : g ∣ a) (h0 : g ≠ 0) : fr a g = 0 := by
  have s := fq_spec a g h0
  have d : g ∣ fr a g := by
    have e : fr a g = a - fq a g * g := by have := s.1; omega
    rw [e]; exact Int.dvd_sub h (Int.dvd_mul_left _ _)
  exact Int.eq_zero_of_dvd_of_natAbs_lt_natAbs d s.2.1
theorem gcdZ_dvd (a b : Int) : gcdZ a b ∣ a ∧ gcdZ a b ∣ b := ⟨Int.ofNat_dvd_left.2 (Nat.gcd_dvd_left _ _), Int.ofNat_dvd_left.2 (Nat.gcd_dvd_right _ _)⟩
theorem gcdZ_mul (a b c : Int) : gcdZ (a * c) (b * c) = gcdZ a b * (c.natAbs : Int) := by
  unfold gcdZ
  rw [Int.natAbs_mul, Int.natAbs_mul, Nat.gcd_mul_right, Int.natCast_mul]
theorem gcdZ_ne {a b : Int} (h : b ≠ 0) : gcdZ a b ≠ 0 := by
  unfold gcdZ
  have : 0 < Nat.gcd a.natAbs b.natAbs := Nat.gcd_pos_of_pos_right _ (by omega)
  omega

theorem integerEuclid_any (neg neg' neg'' : Bool) (A A' A'' : Option Addr) (n c n' c' n'' c'' : Nat) (xs ys zs : List Nat) (w : World) (h : Sl w w.heap.size A n c xs) (h' : Sl w w.heap.size A' n' c' ys) (h'' : Sl w w.heap.size A'' n'' c'' zs) :
    Calls Try.prog 13 #[.agg #[.bool neg, .slice A n c], .agg #[.bool neg', .slice A' n' c'], .agg #[.bool neg'', .slice A'' n'' c'']] w fun e w' => e = .returned (.bool true) ∧ Below w.heap.size w w' := by
  rcases hv : vld neg xs with _ | _
  · exact euclid_bad1 neg neg' neg'' A A' A'' n c n' c' n'' c'' xs ys zs w h h' h'' hv
  · rcases hv' : vld neg' ys with _ | _
    · exact euclid_bad2 neg neg' neg'' A A' A'' n c n' c' n'' c'' xs ys zs w h h' h'' hv hv'
    · rcases hv'' : vld neg'' zs with _ | _
      · exact euclid_bad3 neg neg' neg'' A A' A'' n c n' c' n'' c'' xs ys zs w h h' h'' hv hv' hv''
      · by_cases hn : n' = 0
        · exact euclid_bad4 neg neg' neg'' A A' A'' n c n' c' n'' c'' xs ys zs w h h' h'' hv hv' hv'' (by rw [hn]; rfl)
        · have hn1 : ((n' : Int) == 0) = false := by rw [beq_eq_false_iff_ne]; omega
          have hp : 0 < val ys := val_pos (vld_true hv').2.1 (by rintro rfl; have := h'.len; simp at this; omega)
          have oa := ov_some hv
          have ob := ov_some hv'
          have oc := ov_some hv''
          have hb0 : sg neg' (val ys) ≠ 0 := by
            intro e
            have := congrArg Int.natAbs e
            rw [sg_abs] at this
            simp at this; omega
          generalize sg neg (val xs) = a at *
          generalize sg neg' (val ys) = b at *
          generalize sg neg'' (val zs) = d at *
          have la := ov_lt h.ok oa
          have lb := ov_lt h'.ok ob
          have ld := ov_lt h''.ok oc
          have lg := gcdZ_lt la lb
          have fg := fit_yes lg
          have g0 := gcdZ_ne (a := a) hb0
          have s := fq_spec a b hb0
          have dl := dv_lt (oa := some a) (ob := some b) (fun x hx => by injection hx with hx; rw [← hx]; exact la) (fun x hx => by injection hx with hx; rw [← hx]; exact lb)
          have lr : (fr a b).natAbs < BIG := by have := dl.2; rwa [dvR_some, if_neg hb0] at this
          have er := gcdZ_rem s.1
          have dv := gcdZ_dvd a b
          refine euclid_walk neg neg' neg'' A A' A'' n c n' c' n'' c'' xs ys zs w h h' h'' a b d (gcdZ a b) (fq a b) (fr a b) (fq a (gcdZ a b)) (fr a (gcdZ a b)) (fq b (gcdZ a b)) (fr b (gcdZ a b)) _ _ _ _ (gcdZ (a * d) (b * d)) oa ob oc hv hv' hv'' hn1 fg.1 fg.2 lg ?_ ?_ ?_ lr ?_ ?_ ?_ ?_ ?_ (fr_zero dv.1 g0) ?_ ?_ ?_ (fr_zero dv.2 g0) rfl rfl (o2Z_lt _ _ _) rfl rfl (o2Z_lt _ _ _) ?_
          · rw [Hid, dvQ_some, if_neg hb0]
          · rw [Hid, dvR_some, if_neg hb0]
          · rw [Hid, dvE_some, if_neg hb0]
          · show fitZ (gcdZ b (fr a b)) = _
            rw [er]; exact fg.1
          · show fitE (gcdZ b (fr a b)) = _
            rw [er]; exact fg.2
          · rw [Hid, dvQ_some, if_neg g0]
          · rw [Hid, dvR_some, if_neg g0]
          · rw [Hid, dvE_some, if_neg g0]
          · rw [Hid, dvQ_some, if_neg g0]
          · rw [Hid, dvR_some, if_neg g0]
          · rw [Hid, dvE_some, if_neg g0]
          · intro h5 h6
            have o5 := o2_ok h5
            have o6 := o2_ok h6
            rw [o5.1, o6.1]
            have lz := gcdZ_lt o5.2 o6.2
            have fz := fit_yes lz
            have e := gcdZ_mul a b d
            refine ⟨⟨fz.1, fz.2⟩, ?_, ?_⟩
            · show fitZ (gcdZ a b * (d.natAbs : Int)) = _
              rw [← e]; exact fz.1
            · show fitE (gcdZ a b * (d.natAbs : Int)) = _
              rw [← e]; exact fz.2

end Go.Proofs.Ytalgcppogjpilaa
