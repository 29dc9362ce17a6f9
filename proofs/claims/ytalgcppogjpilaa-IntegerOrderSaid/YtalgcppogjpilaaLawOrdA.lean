/-
  IntegerOrder returns true, for any three integers, valid or not: the cases together.
-/
import Derived.Test.YtalgcppogjpilaaLawOrd1
import Derived.Test.YtalgcppogjpilaaLawOrd2
import Derived.Test.YtalgcppogjpilaaLawOrd3
import Derived.Test.YtalgcppogjpilaaLawOrd4
namespace Go.Proofs.Ytalgcppogjpilaa
open Go.RowKit

theorem sign_one {z : Int} : Int.sign z = 1 ↔ 0 < z := Int.sign_eq_one_iff_pos
theorem sign_mone {z : Int} : Int.sign z = -1 ↔ z < 0 := Int.sign_eq_neg_one_iff_neg
theorem sign_nil {z : Int} : Int.sign z = 0 ↔ z = 0 := Int.sign_eq_zero_iff_zero
theorem sign_back {a b X : Int} (h : Int.sign (a - b) = X) : Int.sign (b - a) = -X := by
  rw [show b - a = -(a - b) by omega, Int.sign_neg, h]
theorem sign_parts (u v : Int) : (Int.sign (u - v) = 1 ∧ v < u) ∨ (Int.sign (u - v) = 0 ∧ u = v) ∨ (Int.sign (u - v) = -1 ∧ u < v) := by
  rcases Int.lt_trichotomy u v with h | h | h
  · exact .inr (.inr ⟨sign_mone.2 (by omega), h⟩)
  · exact .inr (.inl ⟨sign_nil.2 (by omega), h⟩)
  · exact .inl ⟨sign_one.2 (by omega), h⟩
theorem tri_signs (a b c : Int) : (Int.sign (a - b) = 1 ∧ Int.sign (b - c) = 1 ∧ Int.sign (a - c) = 1) ∨ (Int.sign (a - b) = 1 ∧ Int.sign (b - c) = 0 ∧ Int.sign (a - c) = 1) ∨ (Int.sign (a - b) = 0 ∧ Int.sign (b - c) = 1 ∧ Int.sign (a - c) = 1) ∨ (Int.sign (a - b) = 0 ∧ Int.sign (b - c) = 0 ∧ Int.sign (a - c) = 0) ∨ (Int.sign (a - b) = -1 ∧ Int.sign (b - c) = -1 ∧ Int.sign (a - c) = -1) ∨ (Int.sign (a - b) = -1 ∧ Int.sign (b - c) = 0 ∧ Int.sign (a - c) = -1) ∨ (Int.sign (a - b) = 0 ∧ Int.sign (b - c) = -1 ∧ Int.sign (a - c) = -1) ∨ (Int.sign (a - b) = 1 ∧ Int.sign (b - c) = -1 ∧ Int.sign (a - c) = -1) ∨ (Int.sign (a - b) = 1 ∧ Int.sign (b - c) = -1 ∧ Int.sign (a - c) = 0) ∨ (Int.sign (a - b) = 1 ∧ Int.sign (b - c) = -1 ∧ Int.sign (a - c) = 1) ∨ (Int.sign (a - b) = -1 ∧ Int.sign (b - c) = 1 ∧ Int.sign (a - c) = -1) ∨ (Int.sign (a - b) = -1 ∧ Int.sign (b - c) = 1 ∧ Int.sign (a - c) = 0) ∨ (Int.sign (a - b) = -1 ∧ Int.sign (b - c) = 1 ∧ Int.sign (a - c) = 1) := by
  rcases sign_parts a b with ⟨e1, h1⟩ | ⟨e1, h1⟩ | ⟨e1, h1⟩ <;> rcases sign_parts b c with ⟨e2, h2⟩ | ⟨e2, h2⟩ | ⟨e2, h2⟩ <;> rcases sign_parts a c with ⟨e3, h3⟩ | ⟨e3, h3⟩ | ⟨e3, h3⟩ <;>
    first
    | (exfalso; omega)
    | (rw [e1, e2, e3]; decide)
theorem order_he {u X : Int} (hX : Int.sign u = X) : (fitE u = 0 ∧ Int.sign (fitZ u - 0) = X) ∨ fitE u = 2 := by
  by_cases h : u.natAbs < BIG
  · left
    have := fit_yes h
    rw [this.1, this.2, Int.sub_zero]
    exact ⟨rfl, hX⟩
  · right
    exact (fit_no h).2
theorem order_hf {p q X : Int} (hX : Int.sign (p - q) = X) : (fitE p = 0 ∧ fitE q = 0 ∧ Int.sign (fitZ p - fitZ q) = X) ∨ (fitE p = 0 ∧ fitE q = 2) ∨ fitE p = 2 := by
  by_cases h : p.natAbs < BIG
  · have hp := fit_yes h
    by_cases k : q.natAbs < BIG
    · left
      have hq := fit_yes k
      rw [hp.1, hp.2, hq.1, hq.2]
      exact ⟨rfl, rfl, hX⟩
    · right; left
      exact ⟨hp.2, (fit_no k).2⟩
  · right; right
    exact (fit_no h).2
theorem big_pos : 0 < BIG := by unfold BIG; exact pow_pos' _
theorem fit_lt (u : Int) : (fitZ u).natAbs < BIG := by
  unfold fitZ
  split
  · assumption
  · exact big_pos
/-- Two valid integers are one number just if they look alike. -/
theorem alike_iff {neg neg' : Bool} {xs ys : List Nat} (hv : vld neg xs = true) (hv' : vld neg' ys = true) (hx : Ok xs) (hy : Ok ys) : (neg = neg' ∧ xs = ys) ↔ sg neg (val xs) = sg neg' (val ys) := by
  have v1 := vld_true hv
  have v2 := vld_true hv'
  constructor
  · rintro ⟨rfl, rfl⟩; rfl
  · intro h
    have e : val xs = val ys := by
      have := congrArg Int.natAbs h
      rwa [sg_abs, sg_abs] at this
    have e2 := uniq hx hy v1.2.1 v2.2.1 e
    refine ⟨?_, e2⟩
    rcases Nat.eq_zero_or_pos (val xs) with h0 | h0
    · have n1 := val_zero v1.2.1 h0
      have n2 : ys = [] := by rw [← e2]; exact n1
      rw [v1.2.2 n1, v2.2.2 n2]
    · cases neg <;> cases neg' <;> first | rfl | (simp only [sg_true, sg_false] at h; omega)
theorem alike_dec {neg neg' : Bool} {xs ys : List Nat} (hv : vld neg xs = true) (hv' : vld neg' ys = true) (hx : Ok xs) (hy : Ok ys) {X : Int} (h : Int.sign (sg neg (val xs) - sg neg' (val ys)) = X) :
    decide (neg = neg' ∧ xs = ys) = decide (X = 0) := by
  rw [decide_eq_decide, alike_iff hv hv' hx hy, ← h, sign_nil]
  omega

theorem order_add {neg neg' : Bool} {A A' : Option Addr} {n c n' c' : Nat} {xs ys : List Nat} {w : World} (h : Sl w w.heap.size A n c xs) (h' : Sl w w.heap.size A' n' c' ys) (hv : vld neg xs = true) (hv' : vld neg' ys = true) :
    Calls Try.prog 25 #[.agg #[.bool neg, .slice A n c], .agg #[.bool neg', .slice A' n' c']] w (RetIE (fitZ (sg neg (val xs) + sg neg' (val ys))) (fitE (sg neg (val xs) + sg neg' (val ys))) w) := by
  have := add_any neg neg' A A' n c n' c' xs ys w h h'
  rwa [hv, hv'] at this
theorem order_sub {neg neg' : Bool} {A A' : Option Addr} {n c n' c' : Nat} {xs ys : List Nat} {w : World} (h : Sl w w.heap.size A n c xs) (h' : Sl w w.heap.size A' n' c' ys) (hv : vld neg xs = true) (hv' : vld neg' ys = true) :
    Calls Try.prog 27 #[.agg #[.bool neg, .slice A n c], .agg #[.bool neg', .slice A' n' c']] w (RetIE (fitZ (sg neg (val xs) - sg neg' (val ys))) (fitE (sg neg (val xs) - sg neg' (val ys))) w) := by
  have := sub_any neg neg' A A' n c n' c' xs ys w h h'
  rwa [hv, hv', sg_not, ← Int.sub_eq_add_neg] at this
theorem order_good (neg neg' neg'' : Bool) (A A' A'' : Option Addr) (n c n' c' n'' c'' : Nat) (xs ys zs : List Nat) (w : World) (h : Sl w w.heap.size A n c xs) (h' : Sl w w.heap.size A' n' c' ys) (h'' : Sl w w.heap.size A'' n'' c'' zs) (hv : vld neg xs = true) (hv' : vld neg' ys = true) (hv'' : vld neg'' zs = true) :
    Calls Try.prog 17 #[.agg #[.bool neg, .slice A n c], .agg #[.bool neg', .slice A' n' c'], .agg #[.bool neg'', .slice A'' n'' c'']] w fun e w' => e = .returned (.bool true) ∧ Below w.heap.size w w' := by
  have ss : sg neg (val xs) + sg neg'' (val zs) - (sg neg' (val ys) + sg neg'' (val zs)) = sg neg (val xs) - sg neg' (val ys) := by omega
  rcases tri_signs (sg neg (val xs)) (sg neg' (val ys)) (sg neg'' (val zs)) with ⟨hx, hy, hz⟩ | ⟨hx, hy, hz⟩ | ⟨hx, hy, hz⟩ | ⟨hx, hy, hz⟩ | ⟨hx, hy, hz⟩ | ⟨hx, hy, hz⟩ | ⟨hx, hy, hz⟩ | ⟨hx, hy, hz⟩ | ⟨hx, hy, hz⟩ | ⟨hx, hy, hz⟩ | ⟨hx, hy, hz⟩ | ⟨hx, hy, hz⟩ | ⟨hx, hy, hz⟩
  · refine order_walk0 neg neg' neg'' A A' A'' n c n' c' n'' c'' xs ys zs w h h' h'' hv hv' hv'' _ _ (fitZ (sg neg (val xs) - sg neg' (val ys))) (fitZ (sg neg (val xs) + sg neg'' (val zs))) (fitZ (sg neg' (val ys) + sg neg'' (val zs))) 0 _ _ _
      (fun w h h' => cmp_nz h h' hv hv' _ hx) (fun w h h' => cmp_nz h h' hv' hv'' _ hy) (fun w h h' => cmp_nz h h' hv hv'' _ hz) (fun w h h' => cmp_nz h h' hv' hv _ (sign_back hx)) ?_
      (fun w => of_any 0 w (by omega) (by omega)) (fun w k k' => order_add k k' hv hv'') (fun w k k' => order_add k k' hv' hv'') ?_ (fit_lt _) big_pos (fit_lt _) (fit_lt _) rfl rfl (order_he hx) (order_hf (by rw [ss]; exact hx))
    · exact fun w k k' => order_sub k k' hv hv'
    · intro w k k'
      have := lsame_any neg neg' A A' n c n' c' xs ys w k k'
      rw [alike_dec hv hv' h.ok h'.ok hx] at this
      exact this
  · refine order_walk1 neg neg' neg'' A A' A'' n c n' c' n'' c'' xs ys zs w h h' h'' hv hv' hv'' _ _ (fitZ (sg neg (val xs) - sg neg' (val ys))) (fitZ (sg neg (val xs) + sg neg'' (val zs))) (fitZ (sg neg' (val ys) + sg neg'' (val zs))) 0 _ _ _
      (fun w h h' => cmp_nz h h' hv hv' _ hx) (fun w h h' => cmp_nz h h' hv' hv'' _ hy) (fun w h h' => cmp_nz h h' hv hv'' _ hz) (fun w h h' => cmp_nz h h' hv' hv _ (sign_back hx)) ?_
      (fun w => of_any 0 w (by omega) (by omega)) (fun w k k' => order_add k k' hv hv'') (fun w k k' => order_add k k' hv' hv'') ?_ (fit_lt _) big_pos (fit_lt _) (fit_lt _) rfl rfl (order_he hx) (order_hf (by rw [ss]; exact hx))
    · exact fun w k k' => order_sub k k' hv hv'
    · intro w k k'
      have := lsame_any neg neg' A A' n c n' c' xs ys w k k'
      rw [alike_dec hv hv' h.ok h'.ok hx] at this
      exact this
  · refine order_walk2 neg neg' neg'' A A' A'' n c n' c' n'' c'' xs ys zs w h h' h'' hv hv' hv'' _ _ (fitZ (sg neg (val xs) - sg neg' (val ys))) (fitZ (sg neg (val xs) + sg neg'' (val zs))) (fitZ (sg neg' (val ys) + sg neg'' (val zs))) 0 _ _ _
      (fun w h h' => cmp_nz h h' hv hv' _ hx) (fun w h h' => cmp_nz h h' hv' hv'' _ hy) (fun w h h' => cmp_nz h h' hv hv'' _ hz) (fun w h h' => cmp_nz h h' hv' hv _ (sign_back hx)) ?_
      (fun w => of_any 0 w (by omega) (by omega)) (fun w k k' => order_add k k' hv hv'') (fun w k k' => order_add k k' hv' hv'') ?_ (fit_lt _) big_pos (fit_lt _) (fit_lt _) rfl rfl (order_he hx) (order_hf (by rw [ss]; exact hx))
    · exact fun w k k' => order_sub k k' hv hv'
    · intro w k k'
      have := lsame_any neg neg' A A' n c n' c' xs ys w k k'
      rw [alike_dec hv hv' h.ok h'.ok hx] at this
      exact this
  · refine order_walk3 neg neg' neg'' A A' A'' n c n' c' n'' c'' xs ys zs w h h' h'' hv hv' hv'' _ _ (fitZ (sg neg (val xs) - sg neg' (val ys))) (fitZ (sg neg (val xs) + sg neg'' (val zs))) (fitZ (sg neg' (val ys) + sg neg'' (val zs))) 0 _ _ _
      (fun w h h' => cmp_nz h h' hv hv' _ hx) (fun w h h' => cmp_nz h h' hv' hv'' _ hy) (fun w h h' => cmp_nz h h' hv hv'' _ hz) (fun w h h' => cmp_nz h h' hv' hv _ (sign_back hx)) ?_
      (fun w => of_any 0 w (by omega) (by omega)) (fun w k k' => order_add k k' hv hv'') (fun w k k' => order_add k k' hv' hv'') ?_ (fit_lt _) big_pos (fit_lt _) (fit_lt _) rfl rfl (order_he hx) (order_hf (by rw [ss]; exact hx))
    · exact fun w k k' => order_sub k k' hv hv'
    · intro w k k'
      have := lsame_any neg neg' A A' n c n' c' xs ys w k k'
      rw [alike_dec hv hv' h.ok h'.ok hx] at this
      exact this
  · refine order_walk4 neg neg' neg'' A A' A'' n c n' c' n'' c'' xs ys zs w h h' h'' hv hv' hv'' _ _ (fitZ (sg neg (val xs) - sg neg' (val ys))) (fitZ (sg neg (val xs) + sg neg'' (val zs))) (fitZ (sg neg' (val ys) + sg neg'' (val zs))) 0 _ _ _
      (fun w h h' => cmp_nz h h' hv hv' _ hx) (fun w h h' => cmp_nz h h' hv' hv'' _ hy) (fun w h h' => cmp_nz h h' hv hv'' _ hz) (fun w h h' => cmp_nz h h' hv' hv _ (sign_back hx)) ?_
      (fun w => of_any 0 w (by omega) (by omega)) (fun w k k' => order_add k k' hv hv'') (fun w k k' => order_add k k' hv' hv'') ?_ (fit_lt _) big_pos (fit_lt _) (fit_lt _) rfl rfl (order_he hx) (order_hf (by rw [ss]; exact hx))
    · exact fun w k k' => order_sub k k' hv hv'
    · intro w k k'
      have := lsame_any neg neg' A A' n c n' c' xs ys w k k'
      rw [alike_dec hv hv' h.ok h'.ok hx] at this
      exact this
  · refine order_walk5 neg neg' neg'' A A' A'' n c n' c' n'' c'' xs ys zs w h h' h'' hv hv' hv'' _ _ (fitZ (sg neg (val xs) - sg neg' (val ys))) (fitZ (sg neg (val xs) + sg neg'' (val zs))) (fitZ (sg neg' (val ys) + sg neg'' (val zs))) 0 _ _ _
      (fun w h h' => cmp_nz h h' hv hv' _ hx) (fun w h h' => cmp_nz h h' hv' hv'' _ hy) (fun w h h' => cmp_nz h h' hv hv'' _ hz) (fun w h h' => cmp_nz h h' hv' hv _ (sign_back hx)) ?_
      (fun w => of_any 0 w (by omega) (by omega)) (fun w k k' => order_add k k' hv hv'') (fun w k k' => order_add k k' hv' hv'') ?_ (fit_lt _) big_pos (fit_lt _) (fit_lt _) rfl rfl (order_he hx) (order_hf (by rw [ss]; exact hx))
    · exact fun w k k' => order_sub k k' hv hv'
    · intro w k k'
      have := lsame_any neg neg' A A' n c n' c' xs ys w k k'
      rw [alike_dec hv hv' h.ok h'.ok hx] at this
      exact this
  · refine order_walk6 neg neg' neg'' A A' A'' n c n' c' n'' c'' xs ys zs w h h' h'' hv hv' hv'' _ _ (fitZ (sg neg (val xs) - sg neg' (val ys))) (fitZ (sg neg (val xs) + sg neg'' (val zs))) (fitZ (sg neg' (val ys) + sg neg'' (val zs))) 0 _ _ _
      (fun w h h' => cmp_nz h h' hv hv' _ hx) (fun w h h' => cmp_nz h h' hv' hv'' _ hy) (fun w h h' => cmp_nz h h' hv hv'' _ hz) (fun w h h' => cmp_nz h h' hv' hv _ (sign_back hx)) ?_
      (fun w => of_any 0 w (by omega) (by omega)) (fun w k k' => order_add k k' hv hv'') (fun w k k' => order_add k k' hv' hv'') ?_ (fit_lt _) big_pos (fit_lt _) (fit_lt _) rfl rfl (order_he hx) (order_hf (by rw [ss]; exact hx))
    · exact fun w k k' => order_sub k k' hv hv'
    · intro w k k'
      have := lsame_any neg neg' A A' n c n' c' xs ys w k k'
      rw [alike_dec hv hv' h.ok h'.ok hx] at this
      exact this
  · refine order_walk7 neg neg' neg'' A A' A'' n c n' c' n'' c'' xs ys zs w h h' h'' hv hv' hv'' _ _ (fitZ (sg neg (val xs) - sg neg' (val ys))) (fitZ (sg neg (val xs) + sg neg'' (val zs))) (fitZ (sg neg' (val ys) + sg neg'' (val zs))) 0 _ _ _
      (fun w h h' => cmp_nz h h' hv hv' _ hx) (fun w h h' => cmp_nz h h' hv' hv'' _ hy) (fun w h h' => cmp_nz h h' hv hv'' _ hz) (fun w h h' => cmp_nz h h' hv' hv _ (sign_back hx)) ?_
      (fun w => of_any 0 w (by omega) (by omega)) (fun w k k' => order_add k k' hv hv'') (fun w k k' => order_add k k' hv' hv'') ?_ (fit_lt _) big_pos (fit_lt _) (fit_lt _) rfl rfl (order_he hx) (order_hf (by rw [ss]; exact hx))
    · exact fun w k k' => order_sub k k' hv hv'
    · intro w k k'
      have := lsame_any neg neg' A A' n c n' c' xs ys w k k'
      rw [alike_dec hv hv' h.ok h'.ok hx] at this
      exact this
  · refine order_walk8 neg neg' neg'' A A' A'' n c n' c' n'' c'' xs ys zs w h h' h'' hv hv' hv'' _ _ (fitZ (sg neg (val xs) - sg neg' (val ys))) (fitZ (sg neg (val xs) + sg neg'' (val zs))) (fitZ (sg neg' (val ys) + sg neg'' (val zs))) 0 _ _ _
      (fun w h h' => cmp_nz h h' hv hv' _ hx) (fun w h h' => cmp_nz h h' hv' hv'' _ hy) (fun w h h' => cmp_nz h h' hv hv'' _ hz) (fun w h h' => cmp_nz h h' hv' hv _ (sign_back hx)) ?_
      (fun w => of_any 0 w (by omega) (by omega)) (fun w k k' => order_add k k' hv hv'') (fun w k k' => order_add k k' hv' hv'') ?_ (fit_lt _) big_pos (fit_lt _) (fit_lt _) rfl rfl (order_he hx) (order_hf (by rw [ss]; exact hx))
    · exact fun w k k' => order_sub k k' hv hv'
    · intro w k k'
      have := lsame_any neg neg' A A' n c n' c' xs ys w k k'
      rw [alike_dec hv hv' h.ok h'.ok hx] at this
      exact this
  · refine order_walk9 neg neg' neg'' A A' A'' n c n' c' n'' c'' xs ys zs w h h' h'' hv hv' hv'' _ _ (fitZ (sg neg (val xs) - sg neg' (val ys))) (fitZ (sg neg (val xs) + sg neg'' (val zs))) (fitZ (sg neg' (val ys) + sg neg'' (val zs))) 0 _ _ _
      (fun w h h' => cmp_nz h h' hv hv' _ hx) (fun w h h' => cmp_nz h h' hv' hv'' _ hy) (fun w h h' => cmp_nz h h' hv hv'' _ hz) (fun w h h' => cmp_nz h h' hv' hv _ (sign_back hx)) ?_
      (fun w => of_any 0 w (by omega) (by omega)) (fun w k k' => order_add k k' hv hv'') (fun w k k' => order_add k k' hv' hv'') ?_ (fit_lt _) big_pos (fit_lt _) (fit_lt _) rfl rfl (order_he hx) (order_hf (by rw [ss]; exact hx))
    · exact fun w k k' => order_sub k k' hv hv'
    · intro w k k'
      have := lsame_any neg neg' A A' n c n' c' xs ys w k k'
      rw [alike_dec hv hv' h.ok h'.ok hx] at this
      exact this
  · refine order_walk10 neg neg' neg'' A A' A'' n c n' c' n'' c'' xs ys zs w h h' h'' hv hv' hv'' _ _ (fitZ (sg neg (val xs) - sg neg' (val ys))) (fitZ (sg neg (val xs) + sg neg'' (val zs))) (fitZ (sg neg' (val ys) + sg neg'' (val zs))) 0 _ _ _
      (fun w h h' => cmp_nz h h' hv hv' _ hx) (fun w h h' => cmp_nz h h' hv' hv'' _ hy) (fun w h h' => cmp_nz h h' hv hv'' _ hz) (fun w h h' => cmp_nz h h' hv' hv _ (sign_back hx)) ?_
      (fun w => of_any 0 w (by omega) (by omega)) (fun w k k' => order_add k k' hv hv'') (fun w k k' => order_add k k' hv' hv'') ?_ (fit_lt _) big_pos (fit_lt _) (fit_lt _) rfl rfl (order_he hx) (order_hf (by rw [ss]; exact hx))
    · exact fun w k k' => order_sub k k' hv hv'
    · intro w k k'
      have := lsame_any neg neg' A A' n c n' c' xs ys w k k'
      rw [alike_dec hv hv' h.ok h'.ok hx] at this
      exact this
  · refine order_walk11 neg neg' neg'' A A' A'' n c n' c' n'' c'' xs ys zs w h h' h'' hv hv' hv'' _ _ (fitZ (sg neg (val xs) - sg neg' (val ys))) (fitZ (sg neg (val xs) + sg neg'' (val zs))) (fitZ (sg neg' (val ys) + sg neg'' (val zs))) 0 _ _ _
      (fun w h h' => cmp_nz h h' hv hv' _ hx) (fun w h h' => cmp_nz h h' hv' hv'' _ hy) (fun w h h' => cmp_nz h h' hv hv'' _ hz) (fun w h h' => cmp_nz h h' hv' hv _ (sign_back hx)) ?_
      (fun w => of_any 0 w (by omega) (by omega)) (fun w k k' => order_add k k' hv hv'') (fun w k k' => order_add k k' hv' hv'') ?_ (fit_lt _) big_pos (fit_lt _) (fit_lt _) rfl rfl (order_he hx) (order_hf (by rw [ss]; exact hx))
    · exact fun w k k' => order_sub k k' hv hv'
    · intro w k k'
      have := lsame_any neg neg' A A' n c n' c' xs ys w k k'
      rw [alike_dec hv hv' h.ok h'.ok hx] at this
      exact this
  · refine order_walk12 neg neg' neg'' A A' A'' n c n' c' n'' c'' xs ys zs w h h' h'' hv hv' hv'' _ _ (fitZ (sg neg (val xs) - sg neg' (val ys))) (fitZ (sg neg (val xs) + sg neg'' (val zs))) (fitZ (sg neg' (val ys) + sg neg'' (val zs))) 0 _ _ _
      (fun w h h' => cmp_nz h h' hv hv' _ hx) (fun w h h' => cmp_nz h h' hv' hv'' _ hy) (fun w h h' => cmp_nz h h' hv hv'' _ hz) (fun w h h' => cmp_nz h h' hv' hv _ (sign_back hx)) ?_
      (fun w => of_any 0 w (by omega) (by omega)) (fun w k k' => order_add k k' hv hv'') (fun w k k' => order_add k k' hv' hv'') ?_ (fit_lt _) big_pos (fit_lt _) (fit_lt _) rfl rfl (order_he hx) (order_hf (by rw [ss]; exact hx))
    · exact fun w k k' => order_sub k k' hv hv'
    · intro w k k'
      have := lsame_any neg neg' A A' n c n' c' xs ys w k k'
      rw [alike_dec hv hv' h.ok h'.ok hx] at this
      exact this

theorem integerOrder_any (neg neg' neg'' : Bool) (A A' A'' : Option Addr) (n c n' c' n'' c'' : Nat) (xs ys zs : List Nat) (w : World) (h : Sl w w.heap.size A n c xs) (h' : Sl w w.heap.size A' n' c' ys) (h'' : Sl w w.heap.size A'' n'' c'' zs) :
    Calls Try.prog 17 #[.agg #[.bool neg, .slice A n c], .agg #[.bool neg', .slice A' n' c'], .agg #[.bool neg'', .slice A'' n'' c'']] w fun e w' => e = .returned (.bool true) ∧ Below w.heap.size w w' := by
  rcases hv : vld neg xs with _ | _
  · exact order_bad1 neg neg' neg'' A A' A'' n c n' c' n'' c'' xs ys zs w h h' h'' hv
  · rcases hv' : vld neg' ys with _ | _
    · exact order_bad2 neg neg' neg'' A A' A'' n c n' c' n'' c'' xs ys zs w h h' h'' hv hv'
    · rcases hv'' : vld neg'' zs with _ | _
      · exact order_bad3 neg neg' neg'' A A' A'' n c n' c' n'' c'' xs ys zs w h h' h'' hv hv' hv''
      · exact order_good neg neg' neg'' A A' A'' n c n' c' n'' c'' xs ys zs w h h' h'' hv hv' hv''

end Go.Proofs.Ytalgcppogjpilaa
