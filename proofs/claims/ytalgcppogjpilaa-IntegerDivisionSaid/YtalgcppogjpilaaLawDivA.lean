/-
  IntegerDivision returns true, for any two integers, valid or not.
-/
import Derived.Test.YtalgcppogjpilaaLawDiv1
import Derived.Test.YtalgcppogjpilaaLawDiv2
namespace Go.Proofs.Ytalgcppogjpilaa
open Go.RowKit

theorem sign_mone' {z : Int} : Int.sign z = -1 ↔ z < 0 := Int.sign_eq_neg_one_iff_neg
theorem o2_fine {f : Int → Int → Int} {a b : Int} (h : (o2E f (some a) (some b) != 0) = false) : o2Z f (some a) (some b) = f a b := by
  by_cases hb : (f a b).natAbs < BIG
  · exact (fit_yes hb).1
  · have e : o2E f (some a) (some b) = 2 := (fit_no hb).2
    rw [e] at h
    exact absurd h (by decide)

theorem integerDivision_any (neg neg' : Bool) (A A' : Option Addr) (n c n' c' : Nat) (xs ys : List Nat) (w : World) (h : Sl w w.heap.size A n c xs) (h' : Sl w w.heap.size A' n' c' ys) :
    Calls Try.prog 12 #[.agg #[.bool neg, .slice A n c], .agg #[.bool neg', .slice A' n' c']] w fun e w' => e = .returned (.bool true) ∧ Below w.heap.size w w' := by
  rcases hv : vld neg xs with _ | _
  · exact division_bad1 neg neg' A A' n c n' c' xs ys w h h' none _ _ _ _ (ov_none hv) rfl rfl rfl rfl hv rfl
  · rcases hv' : vld neg' ys with _ | _
    · exact division_bad2 neg neg' A A' n c n' c' xs ys w h h' _ none _ _ _ (ov_some hv) (ov_none hv') rfl rfl rfl hv hv' rfl
    · have v := vld_true hv
      have v' := vld_true hv'
      by_cases h0 : ys = []
      · have hn : n' = 0 := by have := h'.len; rw [h0] at this; simpa using this.symm
        have e : sg neg' (val ys) = 0 := by rw [h0, v'.2.2 h0, sg_false, val_nil]; rfl
        exact division_zero neg neg' A A' n c n' c' xs ys w h h' _ _ _ _ _ (ov_some hv) (ov_some hv') rfl rfl rfl hv hv' (by rw [dvE_some, if_pos e]; rfl) hn
      · have hp := val_pos v'.2.1 h0
        have hn : ((n' : Int) == 0) = false := by
          rw [beq_eq_false_iff_ne]
          intro e
          have e2 : n' = 0 := by omega
          have := h'.len
          rw [e2] at this
          exact h0 (List.eq_nil_of_length_eq_zero this)
        generalize ha : sg neg (val xs) = a
        generalize hb : sg neg' (val ys) = b
        have e : b ≠ 0 := by
          rintro rfl
          have := congrArg Int.natAbs hb
          rw [sg_abs] at this
          simp at this; omega
        have oa : ov neg xs = some a := by rw [ov_some hv, ha]
        have ob : ov neg' ys = some b := by rw [ov_some hv', hb]
        have la := ov_lt h.ok oa
        have lb := ov_lt h'.ok ob
        have s := fq_spec a b e
        have dl := dv_lt (oa := some a) (ob := some b) (fun x hx => by injection hx with hx; rw [← hx]; exact la) (fun x hx => by injection hx with hx; rw [← hx]; exact lb)
        refine division_walk neg neg' A A' n c n' c' xs ys w h h' a b (fq a b) (fr a b) 0 (Int.sign (fr a b)) (Int.sign b) _ _ _ _ oa ob hv hv' hn ?_ ?_ ?_ ?_ ?_ (fun w => of_any 0 w (by omega) (by omega)) big_gt (by rw [Hid, Int.sub_zero]) (by rw [Hid, Int.sub_zero]) ?_ ?_ rfl rfl (o2Z_lt _ _ _) rfl rfl ?_
        · rw [Hid, dvQ_some, if_neg e]
        · rw [Hid, dvR_some, if_neg e]
        · rw [Hid, dvE_some, if_neg e]
        · have := dl.1; rwa [dvQ_some, if_neg e] at this
        · have := dl.2; rwa [dvR_some, if_neg e] at this
        · rw [Hid, sign_mone']; have := s.2.1; omega
        · rcases s.2.2.1 with h1 | h1
          · left; rw [h1]; rfl
          · right; exact h1
        · intro h5 h6
          rw [o2_fine h6, o2_fine h5]
          exact s.1

end Go.Proofs.Ytalgcppogjpilaa
