/-
  Stage 2: Simplest by values: what lies strictly between two rationals, with the least terms, and the same turned round.
-/
import Derived.Test.YtfodjaeknhomkaaRatSi
import Derived.Test.YtfodjaeknhomkaaRatOr
namespace Go.Proofs.Ytfodjaeknhomkaa
open Go.RowKit
/-- The order of rationals in integers. -/
def Lt (x y : Rat) : Prop := x.num * y.den < y.num * x.den
theorem lt_iff (x y : Rat) : Lt x y ↔ (x - y).num < 0 := by
  have c := csgn x y
  unfold Lt
  rcases sign_three (x - y).num with ⟨a, b⟩ | ⟨a, b⟩ | ⟨a, b⟩
  · rw [a] at c
    have := Int.sign_eq_neg_one_iff_neg.1 c
    constructor <;> intro <;> omega
  · rw [a] at c
    have := Int.sign_eq_zero_iff_zero.1 c
    constructor <;> intro <;> omega
  · rw [a] at c
    have := Int.sign_eq_one_iff_pos.1 c
    constructor <;> intro <;> omega
theorem lt_neg {x y : Rat} (h : Lt x y) : Lt (-y) (-x) := by
  unfold Lt at *
  show -y.num * (x.den : Int) < -x.num * (y.den : Int)
  rw [Int.neg_mul, Int.neg_mul]; omega
/-- Simplest hands back z for x and y. -/
def Simp (x y z : Rat) : Prop := ∀ (q q' : RVal) (w : World), q.In w → q'.In w → rv q.o q.od = some x → rv q'.o q'.od = some y → Calls Try.prog 5 #[.agg #[.bool q.g, .slice q.A q.n q.c, .bool q.gd, .slice q.Ad q.nd q.cd], .agg #[.bool q'.g, .slice q'.A q'.n q'.c, .bool q'.gd, .slice q'.Ad q'.nd q'.cd]] w (RetV z w)
structure Between (x y z : Rat) : Prop where
  lo : Lt x z
  hi : Lt z y
  least : ∀ t : Rat, Lt x t → Lt t y → z.den ≤ t.den ∧ z.num.natAbs ≤ t.num.natAbs
theorem neg_between {x y z : Rat} (h : Between x y z) : Between (-y) (-x) (-z) := by
  refine ⟨lt_neg h.hi, lt_neg h.lo, fun t a b => ?_⟩
  have a' := lt_neg a
  have b' := lt_neg b
  rw [Rat.neg_neg] at a' b'
  have k := h.least (-t) b' a'
  have e : (-t).num.natAbs = t.num.natAbs := by show (-t.num).natAbs = _; exact Int.natAbs_neg _
  have e2 : (-z).num.natAbs = z.num.natAbs := by show (-z.num).natAbs = _; exact Int.natAbs_neg _
  rw [e] at k
  rw [e2]
  exact k
theorem less_cmp {x y : Rat} (h : Lt x y) : Int.sign (x.num * y.den - y.num * x.den) = -1 := Int.sign_eq_neg_one_of_neg (by unfold Lt at h; omega)
theorem dn_pos (x : Rat) : 0 < (x.den : Int) := by have := x.den_pos; omega
theorem sign_g {q : RVal} {x : Rat} {w : World} (h : q.In w) (hx : rv q.o q.od = some x) : decide (x.num < 0) = q.g ∧ (decide (0 < q.n) = !decide (x.num = 0)) := by
  have o := (rv_some hx).1
  refine ⟨ov_sign (show ov q.g q.xs = some x.num from o), ?_⟩
  have l := ov_len0 h.1 (show ov q.g q.xs = some x.num from o)
  rw [← l]
  by_cases k : q.n = 0
  · rw [decide_eq_true k, decide_eq_false (by omega)]; rfl
  · rw [decide_eq_false k, decide_eq_true (by omega)]; rfl
/-- The lower one is not negative. -/
theorem simp_low_pair {x y t : Rat} (h0 : 0 ≤ x.num) (h : Lt x y) (t1 : Lt x t) (t2 : Lt t y) (bx : Bd 4096 x) (by' : Bd 4096 y) (bt : Bd 4096 t) : ∃ z : Rat, Between x y z ∧ Simp x y z ∧ Simp (-y) (-x) (-z) := by
  have B : ∀ {u : Rat}, Bd 4096 u → u.num.natAbs < BIG ∧ (u.den : Int).natAbs < BIG := fun b => ⟨big_le b.num (Nat.le_refl _), big_le b.den (Nat.le_refl _)⟩
  obtain ⟨N, D, g, d0, lo, hi, least, C⟩ := expand_any h0 (dn_pos x) (dn_pos y) h (B bx).1 (B bx).2 (B by').1 (B by').2 (dn_pos t) t1 t2 (B bt).1 (B bt).2
  have e := qn N D d0 g
  have hN : 0 ≤ N := by
    have a : 0 ≤ x.num * D := Int.mul_nonneg h0 (Int.le_of_lt d0)
    by_cases k : N < 0
    · have := Int.mul_neg_of_neg_of_pos k (dn_pos x); omega
    · omega
  have hy : 0 < y.num := by
    have a : 0 ≤ N * (y.den : Int) := Int.mul_nonneg hN (Int.le_of_lt (dn_pos y))
    by_cases k : y.num ≤ 0
    · have : y.num * D ≤ 0 * D := Int.mul_le_mul_of_nonneg_right k (Int.le_of_lt d0)
      omega
    · omega
  have CV : ∀ (q q' : RVal) (w : World), q.In w → q'.In w → q.o = some x.num → q.od = some (x.den : Int) → q'.o = some y.num → q'.od = some (y.den : Int) → Calls Try.prog 19 #[.agg #[.bool q.g, .slice q.A q.n q.c, .bool q.gd, .slice q.Ad q.nd q.cd], .agg #[.bool q'.g, .slice q'.A q'.n q'.c, .bool q'.gd, .slice q'.Ad q'.nd q'.cd]] w (RetV (Rat.divInt N D) w) := fun q q' w h h' o1 o2 o3 o4 =>
    (C q q' w h h' o1 o2 o3 o4).mono fun _ _ k => RetR.v e.1.symm e.2.symm k
  refine ⟨Rat.divInt N D, ⟨?_, ?_, fun t a b => ?_⟩, fun q q' w hq hq' hx hy' => ?_, fun q q' w hq hq' hx hy' => ?_⟩
  · unfold Lt; rw [e.1, e.2]; exact lo
  · unfold Lt; rw [e.1, e.2]; exact hi
  · have k := least t.num t.den (dn_pos t) a b
    have e2 := e.2
    rw [e.1]
    exact ⟨by omega, by omega⟩
  · have s := sign_g hq hx
    have o := rv_some hx
    have o' := rv_some hy'
    refine (simplest_low q q' w hq hq' (fun w a b => cmp_q a b hx hy' _ (less_cmp h)) (by rw [← s.1, decide_eq_false (by omega)]) N D 0 (fun w h h' => C q q' w h h' o.1 o.2 o'.1 o'.2)).mono fun _ _ k => RetR.v e.1.symm e.2.symm k
  · have s := sign_g hq hx
    have s' := sign_g hq' hy'
    have o := rv_some hx
    have o' := rv_some hy'
    have hc : ∀ w : World, q.In w → q'.In w → Calls Try.prog 18 #[.agg #[.bool q.g, .slice q.A q.n q.c, .bool q.gd, .slice q.Ad q.nd q.cd], .agg #[.bool q'.g, .slice q'.A q'.n q'.c, .bool q'.gd, .slice q'.Ad q'.nd q'.cd]] w (RetC (-1) 0 w) := fun w a b => cmp_q a b hx hy' _ (less_cmp (lt_neg h))
    have g1 : q.g = true := by rw [← s.1]; exact decide_eq_true (by show -y.num < 0; omega)
    have he : ∀ (f1 f2 : RVal) (w : World), f1.In w → f2.In w → f1.o = some (-(-x).num) → f1.od = some ((-x).den : Int) → f2.o = some (-(-y).num) → f2.od = some ((-y).den : Int) → Calls Try.prog 19 #[.agg #[.bool f1.g, .slice f1.A f1.n f1.c, .bool f1.gd, .slice f1.Ad f1.nd f1.cd], .agg #[.bool f2.g, .slice f2.A f2.n f2.c, .bool f2.gd, .slice f2.Ad f2.nd f2.cd]] w (RetV (Rat.divInt N D) w) := fun f1 f2 w a b o1 o2 o3 o4 =>
      CV f1 f2 w a b (by rw [o1]; show some (- -x.num) = _; rw [Int.neg_neg]) o2 (by rw [o3]; show some (- -y.num) = _; rw [Int.neg_neg]) o4
    have fin : ∀ {e : Ending} {w' : World}, RetR (-(Rat.divInt N D).num) ((Rat.divInt N D).den : Int) 0 w e w' → RetV (-Rat.divInt N D) w e w' := fun k => RetR.v rfl rfl k
    by_cases hz : x.num = 0
    · have g2 : q'.g = false := by rw [← s'.1]; exact decide_eq_false (by show ¬ -x.num < 0; omega)
      have g3 : decide (0 < q'.n) = false := by rw [s'.2, decide_eq_true (show (-x).num = 0 from by show -x.num = 0; omega)]; rfl
      exact (simp_hi0 q q' w hq hq' hc _ _ _ _ (Rat.divInt N D) ⟨g1, g2, g3⟩ ⟨o.1, o.2⟩ ⟨o'.1, o'.2⟩ he).mono fun _ _ k => fin k
    · have g2 : q'.g = true := by rw [← s'.1]; exact decide_eq_true (by show -x.num < 0; omega)
      have g3 : decide (0 < q'.n) = true := by rw [s'.2, decide_eq_false (show ¬ (-x).num = 0 from by show ¬ -x.num = 0; omega)]; rfl
      exact (simp_hi1 q q' w hq hq' hc _ _ _ _ (Rat.divInt N D) ⟨g1, g2, g3⟩ ⟨o.1, o.2⟩ ⟨o'.1, o'.2⟩ he).mono fun _ _ k => fin k
theorem simp_zero {x y : Rat} (h1 : x.num < 0) (h2 : 0 < y.num) (h : Lt x y) : Simp x y 0 := fun q q' w hq hq' hx hy => by
  have s := sign_g hq hx
  have s' := sign_g hq' hy
  refine (simp_mid q q' w hq hq' (fun w a b => cmp_q a b hx hy _ (less_cmp h)) ⟨by rw [← s.1]; exact decide_eq_true h1, by rw [← s'.1]; exact decide_eq_false (by omega), by rw [s'.2, decide_eq_false (by omega)]; rfl⟩).mono fun _ _ k => ?_
  have m := mk_ok (s := 0) (d := 1) (by decide)
  rw [m.1, m.2.1, m.2.2] at k
  have e := qn 0 1 (by decide) (by decide)
  exact RetR.v (e.1.trans rfl) (e.2.trans rfl) k
/-- Simplest of two rationals, and turned round. -/
theorem simp_pair {x y t : Rat} (h : Lt x y) (t1 : Lt x t) (t2 : Lt t y) (bx : Bd 4096 x) (by' : Bd 4096 y) (bt : Bd 4096 t) : ∃ z : Rat, Between x y z ∧ Simp x y z ∧ Simp (-y) (-x) (-z) := by
  by_cases hx : 0 ≤ x.num
  · exact simp_low_pair hx h t1 t2 bx by' bt
  · by_cases hy : 0 < y.num
    · refine ⟨0, ⟨?_, ?_, fun t _ _ => ⟨?_, Nat.zero_le _⟩⟩, simp_zero (by omega) hy h, ?_⟩
      · unfold Lt; show x.num * ((1 : Nat) : Int) < 0 * (x.den : Int); rw [Int.zero_mul]; omega
      · unfold Lt; show 0 * (y.den : Int) < y.num * ((1 : Nat) : Int); rw [Int.zero_mul]; omega
      · show 1 ≤ t.den
        exact t.den_pos
      · exact simp_zero (x := -y) (y := -x) (by show -y.num < 0; omega) (by show 0 < -x.num; omega) (lt_neg h)
    · have nb : ∀ {u : Rat}, Bd 4096 u → Bd 4096 (-u) := fun {u} b => ⟨by show (-u.num).natAbs < _; rw [Int.natAbs_neg]; exact b.1, b.2⟩
      obtain ⟨z, b, s1, s2⟩ := simp_low_pair (x := -y) (y := -x) (t := -t) (by show 0 ≤ -y.num; omega) (lt_neg h) (lt_neg t2) (lt_neg t1) (nb by') (nb bx) (nb bt)
      have b2 := neg_between b
      rw [Rat.neg_neg, Rat.neg_neg] at b2 s2
      exact ⟨-z, b2, s2, by rw [Rat.neg_neg]; exact s1⟩
end Go.Proofs.Ytfodjaeknhomkaa
