/-
  Stage 2: the rational's Valid. Stage 2: rational numbers in numbers: lowest terms, the arithmetic, how many bits it needs. No program. Stage 2: a rational number in memory; the program's Valid, in numbers. Stage 2: the methods of the rational's calls: a call of an integer's operation, whose first error is kept. Stage 2: allValid.
-/
import Derived.Test.YtjbnclfbkccieaaGreatDoorRatA
import Derived.Test.YtjbnclfbkccieaaGreatDoorBaseD
namespace Go.Proofs.YtjbnclfbkccieaaGreatDoor
open Go.RowKit
/-- What Valid says of a numerator o, a denominator o' whose sign is neg' and whose row has n' limbs. -/
def rvB (neg' : Bool) (n' : Nat) (o o' : Option Int) : Bool := !neg' && !(decide (n' = 0)) && (o2E gcdZ o o' == 0) && oneB (some (o2Z gcdZ o o'))
theorem ratValid_neg (neg : Bool) (A A' : Option Addr) (n c n' c' : Nat) (w : World) :
    Calls Tryz.prog 62 #[.agg #[.bool neg, .slice A n c, .bool true, .slice A' n' c']] w fun e w' => e = .returned (.bool false) ∧ Below w.heap.size w w' := by
  go_enter Tryz.func62, Tryz.ntmps62
  have B := Blk.new w 27 #[.bool neg, .slice A n c, .bool true, .slice A' n' c']
  have k2 : (w.alloc (.cells #[.bool neg, .slice A n c, .bool true, .slice A' n' c'] 27)).cell? ⟨w.heap.size, 2, none⟩ = some (.bool true) := by rw [Blk.cell B 2]; rfl
  clear B
  go_wp2_with fail
  go_ret
  exact ⟨rfl, below_new _ _⟩
theorem ratValid_zero (neg : Bool) (A A' : Option Addr) (n c c' : Nat) (w : World) :
    Calls Tryz.prog 62 #[.agg #[.bool neg, .slice A n c, .bool false, .slice A' 0 c']] w fun e w' => e = .returned (.bool false) ∧ Below w.heap.size w w' := by
  go_enter Tryz.func62, Tryz.ntmps62
  have B := Blk.new w 27 #[.bool neg, .slice A n c, .bool false, .slice A' 0 c']
  have k2 : (w.alloc (.cells #[.bool neg, .slice A n c, .bool false, .slice A' 0 c'] 27)).cell? ⟨w.heap.size, 2, none⟩ = some (.bool false) := by rw [Blk.cell B 2]; rfl
  have k3 : (w.alloc (.cells #[.bool neg, .slice A n c, .bool false, .slice A' 0 c'] 27)).cell? ⟨w.heap.size, 3, none⟩ = some (.slice A' 0 c') := by rw [Blk.cell B 3]; rfl
  clear B
  go_wp2_with fail
  go_ret
  exact ⟨rfl, below_new _ _⟩
theorem ratValid_e (neg : Bool) (A A' : Option Addr) (n c n' c' : Nat) (xs : List Nat) (ys : List Nat) (w : World) (h : Sl w w.heap.size A n c xs) (h' : Sl w w.heap.size A' n' c' ys) (hn : n' ≠ 0) (z e : Int)
    (HG : Hid (∀ w : World, Sl w w.heap.size A n c xs → Sl w w.heap.size A' n' c' ys → Calls Tryz.prog 100 #[.agg #[.bool neg, .slice A n c], .agg #[.bool false, .slice A' n' c']] w (RetIE z e w))) (he : (e == 0) = false) :
    Calls Tryz.prog 62 #[.agg #[.bool neg, .slice A n c, .bool false, .slice A' n' c']] w fun e w' => e = .returned (.bool false) ∧ Below w.heap.size w w' := by
  go_enter Tryz.func62, Tryz.ntmps62
  have B := Blk.new w 27 #[.bool neg, .slice A n c, .bool false, .slice A' n' c']
  have k0 : (w.alloc (.cells #[.bool neg, .slice A n c, .bool false, .slice A' n' c'] 27)).cell? ⟨w.heap.size, 0, none⟩ = some (.bool neg) := by rw [Blk.cell B 0]; rfl
  have k1 : (w.alloc (.cells #[.bool neg, .slice A n c, .bool false, .slice A' n' c'] 27)).cell? ⟨w.heap.size, 1, none⟩ = some (.slice A n c) := by rw [Blk.cell B 1]; rfl
  have k2 : (w.alloc (.cells #[.bool neg, .slice A n c, .bool false, .slice A' n' c'] 27)).cell? ⟨w.heap.size, 2, none⟩ = some (.bool false) := by rw [Blk.cell B 2]; rfl
  have k3 : (w.alloc (.cells #[.bool neg, .slice A n c, .bool false, .slice A' n' c'] 27)).cell? ⟨w.heap.size, 3, none⟩ = some (.slice A' n' c') := by rw [Blk.cell B 3]; rfl
  clear B
  have hn0 : ((n' : Int) == 0) = false := by rw [beq_eq_false_iff_ne]; omega
  have hn1 : (n' == 0) = false := by rw [beq_eq_false_iff_ne]; exact hn
  have BN := below_new w (.cells #[.bool neg, .slice A n c, .bool false, .slice A' n' c'] 27)
  have hs := Lib.hid (h.on BN)
  have hs' := Lib.hid (h'.on BN)
  have HB := Lib.hid BN
  clear h h' BN
  go_wp2_with fail
  refine (HG.out _ hs.out hs'.out).mono ?_
  rintro e1 w1 ⟨A1, n1, c1, xs1, rfl, hs1, hx1, hv1, hb1⟩
  have HB1 := Lib.hid (below_chain HB.out (by simp) hb1)
  clear k0 k1 k2 k3 hb1
  go_wp2
  go_ret
  exact ⟨rfl, HB1.out.alloc HB1.out.size _⟩
theorem ratValid_one (neg : Bool) (A A' : Option Addr) (n c n' c' : Nat) (xs : List Nat) (ys : List Nat) (w : World) (h : Sl w w.heap.size A n c xs) (h' : Sl w w.heap.size A' n' c' ys) (hn : n' ≠ 0) (z e : Int)
    (HG : Hid (∀ w : World, Sl w w.heap.size A n c xs → Sl w w.heap.size A' n' c' ys → Calls Tryz.prog 100 #[.agg #[.bool neg, .slice A n c], .agg #[.bool false, .slice A' n' c']] w (RetIE z e w))) (he : e = 0) (hz : z.natAbs < BIG) :
    Calls Tryz.prog 62 #[.agg #[.bool neg, .slice A n c, .bool false, .slice A' n' c']] w fun e w' => e = .returned (.bool (oneB (some z))) ∧ Below w.heap.size w w' := by
  subst he
  go_enter Tryz.func62, Tryz.ntmps62
  have B := Blk.new w 27 #[.bool neg, .slice A n c, .bool false, .slice A' n' c']
  have k0 : (w.alloc (.cells #[.bool neg, .slice A n c, .bool false, .slice A' n' c'] 27)).cell? ⟨w.heap.size, 0, none⟩ = some (.bool neg) := by rw [Blk.cell B 0]; rfl
  have k1 : (w.alloc (.cells #[.bool neg, .slice A n c, .bool false, .slice A' n' c'] 27)).cell? ⟨w.heap.size, 1, none⟩ = some (.slice A n c) := by rw [Blk.cell B 1]; rfl
  have k2 : (w.alloc (.cells #[.bool neg, .slice A n c, .bool false, .slice A' n' c'] 27)).cell? ⟨w.heap.size, 2, none⟩ = some (.bool false) := by rw [Blk.cell B 2]; rfl
  have k3 : (w.alloc (.cells #[.bool neg, .slice A n c, .bool false, .slice A' n' c'] 27)).cell? ⟨w.heap.size, 3, none⟩ = some (.slice A' n' c') := by rw [Blk.cell B 3]; rfl
  clear B
  have hn0 : ((n' : Int) == 0) = false := by rw [beq_eq_false_iff_ne]; omega
  have hn1 : (n' == 0) = false := by rw [beq_eq_false_iff_ne]; exact hn
  have BN := below_new w (.cells #[.bool neg, .slice A n c, .bool false, .slice A' n' c'] 27)
  have hs := Lib.hid (h.on BN)
  have hs' := Lib.hid (h'.on BN)
  have HB := Lib.hid BN
  clear h h' BN
  go_wp2_with fail
  refine (HG.out _ hs.out hs'.out).mono ?_
  rintro e1 w1 ⟨A1, n1, c1, xs1, rfl, hs1, hx1, hv1, hb1⟩
  have HB1 := Lib.hid (below_chain HB.out (by simp) hb1)
  clear k0 k1 k2 k3 hb1
  go_wp2_with fail
  have hov := ov_res hs1.ok hx1 hv1 hz
  have hs2 := hs1.on (below_new w1 (.cells #[.bool (decide (z < 0)), .slice A1 n1 c1] 25))
  have C := isOne_ov (neg := decide (z < 0)) hs2
  rw [hov] at C
  refine C.mono ?_
  rintro e w2 ⟨rfl, hb2⟩
  have HB2 := Lib.hid (below_chain (HB1.out.alloc HB1.out.size (.cells #[.bool (decide (z < 0)), .slice A1 n1 c1] 25)) (by have := HB1.out.size; simp; omega) hb2)
  clear hb2 hs2 C hs1 hx1 hv1
  go_wp2
  go_ret
  exact ⟨rfl, HB2.out⟩
theorem ratValid_any (neg neg' : Bool) (A A' : Option Addr) (n c n' c' : Nat) (xs ys : List Nat) (w : World) (h : Sl w w.heap.size A n c xs) (h' : Sl w w.heap.size A' n' c' ys) :
    Calls Tryz.prog 62 #[.agg #[.bool neg, .slice A n c, .bool neg', .slice A' n' c']] w fun e w' => e = .returned (.bool (rvB neg' n' (ov neg xs) (ov neg' ys))) ∧ Below w.heap.size w w' := by
  rcases neg' with _ | _
  · by_cases hn : n' = 0
    · subst hn
      exact ratValid_zero neg A A' n c c' w
    · have HG : ∀ w : World, Sl w w.heap.size A n c xs → Sl w w.heap.size A' n' c' ys → Calls Tryz.prog 100 #[.agg #[.bool neg, .slice A n c], .agg #[.bool false, .slice A' n' c']] w (RetIE (o2Z gcdZ (ov neg xs) (ov false ys)) (o2E gcdZ (ov neg xs) (ov false ys)) w) :=
        fun w h h' => gcd_ov h h'
      have hz := o2Z_lt gcdZ (ov neg xs) (ov false ys)
      have hr : rvB false n' (ov neg xs) (ov false ys) = ((o2E gcdZ (ov neg xs) (ov false ys) == 0) && oneB (some (o2Z gcdZ (ov neg xs) (ov false ys)))) := by
        unfold rvB
        rw [decide_eq_false hn]; rfl
      rw [hr]
      generalize o2Z gcdZ (ov neg xs) (ov false ys) = z at *
      generalize o2E gcdZ (ov neg xs) (ov false ys) = e at *
      rcases he : (e == 0) with _ | _
      · exact ratValid_e neg A A' n c n' c' xs ys w h h' hn z e HG he
      · exact ratValid_one neg A A' n c n' c' xs ys w h h' hn z e HG (eq_of_beq he) hz
  · exact ratValid_neg neg A A' n c n' c' w
end Go.Proofs.YtjbnclfbkccieaaGreatDoor
namespace Go.Proofs.YtjbnclfbkccieaaGreatDoor
open Go.RowKit
theorem ex_q {q r a c : Int} (h : q * c + r = a) (hr : r.natAbs < c.natAbs) (hd : c ∣ a) : q = a / c ∧ r = 0 := by
  have h0 : c ∣ r := by
    have : c ∣ a - q * c := Int.dvd_sub hd (Int.dvd_mul_left _ _)
    have e : a - q * c = r := by omega
    rwa [e] at this
  have hr0 : r = 0 := by
    rcases Int.natAbs_dvd_natAbs.2 h0 with ⟨k, hk⟩
    rcases Nat.eq_zero_or_pos k with rfl | hk0
    · omega
    · have := Nat.le_mul_of_pos_right c.natAbs hk0
      omega
  refine ⟨?_, hr0⟩
  subst hr0
  have hc : c ≠ 0 := by omega
  rw [← h, Int.add_zero, Int.mul_ediv_cancel _ hc]
theorem mk_num (a b : Int) (hb : b ≠ 0) : (b.sign * gcdZ a b ∣ a) ∧ (b.sign * gcdZ a b ∣ b) ∧ a / (b.sign * gcdZ a b) = (Rat.divInt a b).num ∧ b / (b.sign * gcdZ a b) = ((Rat.divInt a b).den : Int) ∧ b.sign * gcdZ a b ≠ 0 := by
  rw [Rat.num_divInt, Rat.den_divInt, if_neg hb]
  have e : ((b.gcd a : Nat) : Int) = gcdZ a b := by unfold gcdZ Int.gcd; rw [Nat.gcd_comm]
  have ha : gcdZ a b ∣ a := by unfold gcdZ; exact Int.ofNat_dvd_left.2 (Nat.gcd_dvd_left _ _)
  have hb' : gcdZ a b ∣ b := by unfold gcdZ; exact Int.ofNat_dvd_left.2 (Nat.gcd_dvd_right _ _)
  have hp : 0 < gcdZ a b := by
    unfold gcdZ
    have := Nat.gcd_pos_of_pos_right a.natAbs (n := b.natAbs) (by omega)
    omega
  rw [Int.natCast_ediv, e]
  generalize gcdZ a b = g at *
  rcases Int.lt_or_gt_of_ne hb with h | h
  · rw [Int.sign_eq_neg_one_of_neg h]
    have e1 : -1 * g = -g := by omega
    have e2 : -1 * a = -a := by omega
    rw [e1, e2, Int.ediv_neg, Int.ediv_neg, Int.neg_ediv_of_dvd ha, show ((b.natAbs : Nat) : Int) = -b by omega, Int.neg_ediv_of_dvd hb']
    exact ⟨Int.neg_dvd.2 ha, Int.neg_dvd.2 hb', rfl, rfl, by omega⟩
  · rw [Int.sign_eq_one_of_pos h, Int.one_mul, Int.one_mul, show ((b.natAbs : Nat) : Int) = b by omega]
    exact ⟨ha, hb', rfl, rfl, by omega⟩
/-- The rational number of two integers, if it is a valid one. -/
def rv : Option Int → Option Int → Option Rat
  | some a, some b => if 0 < b ∧ gcdZ a b = 1 then some (Rat.divInt a b) else none
  | _, _ => none
theorem rv_some {o o' : Option Int} {q : Rat} (h : rv o o' = some q) : o = some q.num ∧ o' = some (q.den : Int) := by
  rcases o with _ | a <;> rcases o' with _ | b <;> simp only [rv] at h <;> try cases h
  by_cases hc : 0 < b ∧ gcdZ a b = 1
  · rw [if_pos hc] at h
    injection h with h
    subst h
    have := mk_num a b (by omega)
    rw [hc.2, Int.sign_eq_one_of_pos hc.1, Int.one_mul] at this
    rw [← this.2.2.1, ← this.2.2.2.1]
    simp
  · rw [if_neg hc] at h; cases h
theorem rv_of (q : Rat) : rv (some q.num) (some (q.den : Int)) = some q := by
  have hd := q.den_nz
  have hg : gcdZ q.num q.den = 1 := by
    have := q.reduced
    unfold gcdZ
    rw [Int.natAbs_natCast]
    have : Nat.gcd q.num.natAbs q.den = 1 := this
    rw [this]; rfl
  unfold rv
  show (if 0 < (q.den : Int) ∧ gcdZ q.num q.den = 1 then some (Rat.divInt q.num q.den) else none) = some q
  rw [if_pos ⟨by omega, hg⟩, Rat.num_divInt_den]
theorem divInt_le (a b : Int) (hb : b ≠ 0) : (Rat.divInt a b).num.natAbs ≤ a.natAbs ∧ (Rat.divInt a b).den ≤ b.natAbs := by
  rw [Rat.num_divInt, Rat.den_divInt, if_neg hb]
  refine ⟨?_, Nat.div_le_self _ _⟩
  refine Nat.le_trans (Int.natAbs_ediv_le_natAbs _ _) ?_
  rw [Int.natAbs_mul, Int.natAbs_sign_of_ne_zero hb, Nat.one_mul]
  exact Nat.le_refl _
/-- Numerator and denominator have at most e bits. -/
def Bd (e : Nat) (q : Rat) : Prop := q.num.natAbs < pw e ∧ q.den < pw e
theorem Bd.mono {e f : Nat} {q : Rat} (h : Bd e q) (hf : e ≤ f) : Bd f q := ⟨Nat.lt_of_lt_of_le h.1 (pw_le hf), Nat.lt_of_lt_of_le h.2 (pw_le hf)⟩
theorem pmul_bd {x y e f : Nat} (hx : x < pw e) (hy : y < pw f) : x * y < pw (e + f) := by
  rw [pw_add]; exact Nat.mul_lt_mul'' hx hy
theorem two_bd {x y z : Int} {e : Nat} (hx : x.natAbs < pw e) (hy : y.natAbs < pw e) (hz : z = x + y ∨ z = x - y) : z.natAbs < pw (e + 1) := by
  rw [pw_add]; show _ < pw e * 2; omega
theorem imul_bd {x y : Int} {e f : Nat} (hx : x.natAbs < pw e) (hy : y.natAbs < pw f) : (x * y).natAbs < pw (e + f) := by
  rw [Int.natAbs_mul]; exact pmul_bd hx hy
theorem Bd.divInt {a b : Int} {e : Nat} (hb : b ≠ 0) (h1 : a.natAbs < pw e) (h2 : b.natAbs < pw e) : Bd e (Rat.divInt a b) := by
  have := divInt_le a b hb
  exact ⟨by omega, by omega⟩
theorem den_ne (q : Rat) : (q.den : Int) ≠ 0 := by have := q.den_nz; omega
theorem den2_ne (q r : Rat) : (q.den : Int) * (r.den : Int) ≠ 0 := Int.mul_ne_zero (den_ne q) (den_ne r)
theorem rat_add (q r : Rat) : Rat.divInt (q.num * r.den + r.num * q.den) ((q.den : Int) * r.den) = q + r := by
  rw [← Int.natCast_mul, Rat.divInt_ofNat, Rat.add_def']
theorem rat_sub (q r : Rat) : Rat.divInt (q.num * r.den - r.num * q.den) ((q.den : Int) * r.den) = q - r := by
  rw [← Int.natCast_mul, Rat.divInt_ofNat, Rat.sub_def']
theorem rat_mul (q r : Rat) : Rat.divInt (q.num * r.num) ((q.den : Int) * r.den) = q * r := by
  rw [← Int.natCast_mul, Rat.divInt_ofNat, Rat.mul_def']
theorem rat_div (q r : Rat) : Rat.divInt (q.num * r.den) ((q.den : Int) * r.num) = q / r := by
  rw [← Rat.divInt_mul_divInt q.num r.den, Rat.num_divInt_den, Rat.div_def, Rat.inv_def]
theorem Bd.num {e : Nat} {q : Rat} (h : Bd e q) : q.num.natAbs < pw e := h.1
theorem Bd.den {e : Nat} {q : Rat} (h : Bd e q) : (q.den : Int).natAbs < pw e := by rw [Int.natAbs_natCast]; exact h.2
theorem Bd.add {e f : Nat} {q r : Rat} (h : Bd e q) (k : Bd f r) : Bd (e + f + 1) (q + r) := by
  rw [← rat_add]
  refine Bd.divInt (den2_ne q r) (two_bd (imul_bd h.num k.den) (by rw [Nat.add_comm]; exact imul_bd k.num h.den) (Or.inl rfl)) ?_
  exact Nat.lt_of_lt_of_le (imul_bd h.den k.den) (pw_le (by omega))
theorem Bd.sub {e f : Nat} {q r : Rat} (h : Bd e q) (k : Bd f r) : Bd (e + f + 1) (q - r) := by
  rw [← rat_sub]
  refine Bd.divInt (den2_ne q r) (two_bd (imul_bd h.num k.den) (by rw [Nat.add_comm]; exact imul_bd k.num h.den) (Or.inr rfl)) ?_
  exact Nat.lt_of_lt_of_le (imul_bd h.den k.den) (pw_le (by omega))
theorem Bd.mul {e f : Nat} {q r : Rat} (h : Bd e q) (k : Bd f r) : Bd (e + f) (q * r) := by
  rw [← rat_mul]
  exact Bd.divInt (den2_ne q r) (imul_bd h.num k.num) (imul_bd h.den k.den)
theorem big_le {z : Int} {e : Nat} (h : z.natAbs < pw e) (he : e ≤ 4096) : z.natAbs < BIG := by
  rw [big_pw]; exact Nat.lt_of_lt_of_le h (pw_le he)
end Go.Proofs.YtjbnclfbkccieaaGreatDoor
namespace Go.Proofs.YtjbnclfbkccieaaGreatDoor
open Go.RowKit
/-- A rational's value: the cells of its numerator and of its denominator, and the limbs that they read as. -/
structure RVal where
  g : Bool
  A : Option Addr
  n : Nat
  c : Nat
  xs : List Nat
  gd : Bool
  Ad : Option Addr
  nd : Nat
  cd : Nat
  ys : List Nat
def RVal.In (q : RVal) (w : World) : Prop := Sl w w.heap.size q.A q.n q.c q.xs ∧ Sl w w.heap.size q.Ad q.nd q.cd q.ys
def RVal.o (q : RVal) : Option Int := ov q.g q.xs
def RVal.od (q : RVal) : Option Int := ov q.gd q.ys
theorem RVal.In.on {q : RVal} {w w' : World} (h : q.In w) (hb : Below w.heap.size w w') : q.In w' := ⟨h.1.on hb, h.2.on hb⟩
theorem RVal.In.drew {q : RVal} {w : World} (h : q.In w) : q.In w.drew := ⟨h.1.drew, h.2.drew⟩
theorem RVal.In.drewN {q : RVal} {w : World} (h : q.In w) (k : Nat) : q.In (w.drewN k) := ⟨h.1.drewN k, h.2.drewN k⟩
/-- A rational in a box of its own. -/
structure Rb (w : World) (r : Nat) (q : RVal) : Prop where
  bx : Blk w r 27 #[.bool q.g, .slice q.A q.n q.c, .bool q.gd, .slice q.Ad q.nd q.cd]
  sl : q.In w
section
variable {w w' : World} {r : Nat} {q : RVal}
theorem Rb.on (h : Rb w r q) (hb : Below w.heap.size w w') : Rb w' r q := ⟨Blk.below h.bx hb (Blk.lt h.bx), h.sl.on hb⟩
theorem Rb.c0 (h : Rb w r q) : w.cell? ⟨r, 0, none⟩ = some (.bool q.g) := by rw [Blk.cell h.bx 0]; rfl
theorem Rb.c1 (h : Rb w r q) : w.cell? ⟨r, 1, none⟩ = some (.slice q.A q.n q.c) := by rw [Blk.cell h.bx 1]; rfl
theorem Rb.c2 (h : Rb w r q) : w.cell? ⟨r, 2, none⟩ = some (.bool q.gd) := by rw [Blk.cell h.bx 2]; rfl
theorem Rb.c3 (h : Rb w r q) : w.cell? ⟨r, 3, none⟩ = some (.slice q.Ad q.nd q.cd) := by rw [Blk.cell h.bx 3]; rfl
theorem Rb.f (h : Rb w r q) (i : Nat) : w.frozen? ⟨r, i, none⟩ = false := Blk.frozen h.bx i
theorem Rb.lt (h : Rb w r q) : r < w.heap.size := Blk.lt h.bx
theorem Rb.drew (h : Rb w r q) : Rb w.drew r q := ⟨h.bx, h.sl.drew⟩
theorem Rb.drewN (h : Rb w r q) (k : Nat) : Rb (w.drewN k) r q := ⟨h.bx, h.sl.drewN k⟩
theorem Rb.new (h : q.In w) : Rb (w.alloc (.cells #[.bool q.g, .slice q.A q.n q.c, .bool q.gd, .slice q.Ad q.nd q.cd] 27)) w.heap.size q := ⟨Blk.new w _ _, h.on (below_new _ _)⟩
end
/-- What a function hands back: a rational of numerator z and denominator zd, beside the error number er. -/
def RetR (z zd er : Int) (w : World) (e : Ending) (w' : World) : Prop := ∃ q : RVal, e = .returned (.tuple #[.agg #[.bool q.g, .slice q.A q.n q.c, .bool q.gd, .slice q.Ad q.nd q.cd], .int .i64 er]) ∧ q.In w' ∧ q.o = some z ∧ q.od = some zd ∧ Below w.heap.size w w'
theorem fitE_gcd {a b : Int} (ha : a.natAbs < BIG) (hb : b.natAbs < BIG) : fitE (gcdZ a b) = 0 ∧ fitZ (gcdZ a b) = gcdZ a b := ⟨(fit_yes (gcdZ_lt ha hb)).2, (fit_yes (gcdZ_lt ha hb)).1⟩
theorem rvB_rv {g gd : Bool} {xs ys : List Nat} {nd : Nat} (hx : Ok xs) (hy : Ok ys) (hl : ys.length = nd) : rvB gd nd (ov g xs) (ov gd ys) = (rv (ov g xs) (ov gd ys)).isSome := by
  rcases hb : ov gd ys with _ | b
  · unfold rvB
    rcases ov g xs with _ | a <;> simp [rv, o2E]
  · rcases ha : ov g xs with _ | a
    · unfold rvB; simp [rv, o2E]
    · have hs := ov_sign hb
      have hp := ov_parts hb
      have hg := fitE_gcd (ov_lt hx ha) (ov_lt hy hb)
      show (!gd && !(decide (nd = 0)) && (fitE (gcdZ a b) == 0) && oneB (some (fitZ (gcdZ a b)))) = (if 0 < b ∧ gcdZ a b = 1 then some (Rat.divInt a b) else none).isSome
      rw [hg.1, hg.2]
      have h0 : nd = 0 ↔ b = 0 := by
        constructor
        · intro h
          have : ys = [] := List.eq_nil_of_length_eq_zero (by omega)
          rw [this] at hp
          have := hp.2.1
          simp [val] at this
          omega
        · intro h
          rw [h] at hp
          rcases ys with _ | ⟨y, ys⟩
          · simpa using hl.symm
          · have := val_pos hp.1 (by simp)
            rw [hp.2.1] at this
            simp at this
      have h1 := oneB_iff (some (gcdZ a b))
      by_cases hc : 0 < b ∧ gcdZ a b = 1
      · rw [if_pos hc]
        have e1 : gd = false := by rw [← hs]; simp; omega
        have e2 : decide (nd = 0) = false := by rw [decide_eq_false_iff_not, h0]; omega
        have e3 := h1.2 (by rw [hc.2])
        rw [e1, e2, e3]
        rfl
      · rw [if_neg hc]
        rcases Int.lt_trichotomy b 0 with h | h | h
        · have e1 : gd = true := by rw [← hs]; simpa using h
          rw [e1]; rfl
        · have e2 : decide (nd = 0) = true := by rw [decide_eq_true_iff, h0]; exact h
          rw [e2]; simp
        · have e3 : oneB (some (gcdZ a b)) = false := by
            rcases he : oneB (some (gcdZ a b)) with _ | _
            · rfl
            · have := h1.1 he
              injection this with this
              exact absurd ⟨h, this⟩ hc
          rw [e3]; simp
theorem ratValid_r {q : RVal} {w : World} (h : q.In w) : Calls Tryz.prog 62 #[.agg #[.bool q.g, .slice q.A q.n q.c, .bool q.gd, .slice q.Ad q.nd q.cd]] w fun e w' => e = .returned (.bool (rv q.o q.od).isSome) ∧ Below w.heap.size w w' := by
  have := ratValid_any q.g q.gd q.A q.Ad q.n q.c q.nd q.cd q.xs q.ys w h.1 h.2
  rwa [rvB_rv h.1.ok h.2.ok h.2.len] at this
end Go.Proofs.YtjbnclfbkccieaaGreatDoor
namespace Go.Proofs.YtjbnclfbkccieaaGreatDoor
open Go.RowKit
/-- From w to w' nothing changes but what the calls' box p keeps: it is f behind it. -/
structure Kp (w w' : World) (p : Nat) (f : Int) : Prop where
  sl : ∀ A n c xs, Sl w w.heap.size A n c xs → Sl w' w'.heap.size A n c xs
  blk : ∀ g t cs, g ≠ p → Blk w g t cs → Blk w' g t cs
  cl : Blk w' p 115 #[.int .i64 f]
  bel : ∀ B a, Below B a w → B ≤ p → B ≤ w.heap.size → Below B a w'
  size : w.heap.size ≤ w'.heap.size
section
variable {w w' w'' : World} {p : Nat} {f f' : Int}
theorem Kp.trans (h : Kp w w' p f) (k : Kp w' w'' p f') : Kp w w'' p f' :=
  ⟨fun A n c xs s => k.sl A n c xs (h.sl A n c xs s), fun g t cs hg b => k.blk g t cs hg (h.blk g t cs hg b), k.cl, fun B a b h1 h2 => k.bel B a (h.bel B a b h1 h2) h1 (Nat.le_trans h2 h.size), Nat.le_trans h.size k.size⟩
theorem Kp.below (hb : Below w.heap.size w w') (hp : Blk w p 115 #[.int .i64 f]) : Kp w w' p f :=
  ⟨fun _ _ _ _ s => s.on hb, fun _ _ _ _ b => Blk.below b hb (Blk.lt b), Blk.below hp hb (Blk.lt hp), fun _ _ b _ h2 => below_chain b h2 hb, hb.size⟩
theorem Kp.set (hp : Blk w p 115 #[.int .i64 f]) : Kp w (w.setCell ⟨p, 0, none⟩ (.int .i64 f')) p f' := by
  have hs : (w.setCell ⟨p, 0, none⟩ (.int .i64 f')).heap.size = w.heap.size := by simp [World.setCell]
  have hc : w.cell? ⟨p, 0, none⟩ = some (.int .i64 f) := by rw [Blk.cell hp 0]; rfl
  refine ⟨fun A n c xs s => ?_, fun g t cs hg b => Blk.far b (p := ⟨p, 0, none⟩) hg _, ?_, fun B a b h1 _ => b.setCell h1 _, by rw [hs]; exact Nat.le_refl _⟩
  · rw [hs]; exact s.other hc (fun x e => by cases e) _
  · have := Blk.set_ hp 0 (.int .i64 f')
    exact this
theorem Kp.alloc (h : Kp w w' p f) (o : Obj) : Kp w (w'.alloc o) p f := h.trans (Kp.below (below_new _ _) h.cl)
theorem Kp.ret {r : Nat} {g : Bool} {A : Option Addr} {n c : Nat} (h : Kp w w' p f) (hr : Bx w' r g A n c) (hs : w.heap.size ≤ r) (hp : p < w.heap.size) (b : Bool) (v : Value) : Kp w ((w'.setCell ⟨r, 0, none⟩ (.bool b)).setCell ⟨r, 1, none⟩ v) p f := by
  refine ⟨fun A n c xs s => (h.sl A n c xs s).ret hr _ _, fun g t cs hg k => ?_, ?_, fun B a k h1 h2 => below_ret (h.bel B a k h1 h2) (by omega) _ _, by have := h.size; simpa [World.setCell] using this⟩
  · have hlt := Blk.lt k
    have hne : g ≠ r := by omega
    exact Blk.far (Blk.far (h.blk g t cs hg k) (p := ⟨r, 0, none⟩) hne _) (p := ⟨r, 1, none⟩) hne _
  · have hne : p ≠ r := by omega
    exact Blk.far (Blk.far h.cl (p := ⟨r, 0, none⟩) hne _) (p := ⟨r, 1, none⟩) hne _
theorem Kp.rb {r : Nat} {q : RVal} (h : Kp w w' p f) (hr : Rb w r q) (hne : r ≠ p) : Rb w' r q := ⟨h.blk _ _ _ hne hr.bx, h.sl _ _ _ _ hr.sl.1, h.sl _ _ _ _ hr.sl.2⟩
theorem Kp.ba {r : Nat} {neg : Bool} {A : Option Addr} {n c : Nat} {xs : List Nat} (h : Kp w w' p f) (hr : Ba w r neg A n c xs) (hne : r ≠ p) : Ba w' r neg A n c xs := ⟨h.blk _ _ _ hne hr.bx, h.sl _ _ _ _ hr.sl⟩
end
/-- What keep makes of the error e behind the error f. -/
def Kf (f e f' : Int) : Prop := f = 0 ∧ f' = e ∨ f ≠ 0 ∧ f' = f
/-- What a method hands back: the integer z, and f in the box of the calls. -/
def RetM (z f : Int) (p : Nat) (w : World) (e : Ending) (w' : World) : Prop := ∃ neg A n c xs, e = .returned (.agg #[.bool neg, .slice A n c]) ∧ Sl w' w'.heap.size A n c xs ∧ ov neg xs = some z ∧ Kp w w' p f
theorem keep_first (neg : Bool) (A : Option Addr) (n c p : Nat) (xs : List Nat) (er z : Int) (w : World) (h : Sl w w.heap.size A n c xs) (hp : Blk w p 115 #[.int .i64 0]) (hz : ov neg xs = some z) :
    Calls Tryz.prog 134 #[.pointer (some ⟨p, 0, none⟩), .agg #[.bool neg, .slice A n c], .int .i64 er] w (RetM z er p w) := by
  have HZ := Lib.hid hz
  clear hz
  have b1 := Blk.alloc (Blk.alloc hp (.cells #[.bool neg, .slice A n c] 25)) (.cells #[.bool false, .slice none 0 0] 25)
  have k0 : ((w.alloc (.cells #[.bool neg, .slice A n c] 25)).alloc (.cells #[.bool false, .slice none 0 0] 25)).cell? ⟨p, 0, none⟩ = some (.int .i64 0) := by rw [Blk.cell b1 0]; rfl
  have k1 := Blk.frozen b1 0
  have hlt := Blk.lt hp
  have HK := Lib.hid (((Kp.set (f' := er) hp).alloc (.cells #[.bool neg, .slice A n c] 25)).alloc (.cells #[.bool neg, .slice A n c] 25))
  have HP := Lib.hid hp
  have B1 := Lib.hid b1
  have HS := Lib.hid h
  clear hp b1 h
  go_enter Tryz.func134, Tryz.ntmps134
  go_wp2
  refine bodyPost_ret (v := .agg #[.bool neg, .slice A n c]) (by simp [results, Tryz.results134, go_sem]) rfl ?_
  exact ⟨neg, A, n, c, xs, rfl, (HK.out).sl _ _ _ _ HS.out, HZ.out, HK.out⟩
theorem keep_later (neg : Bool) (A : Option Addr) (n c p : Nat) (xs : List Nat) (er z : Int) (w : World) (h : Sl w w.heap.size A n c xs) (f : Int) (hp : Blk w p 115 #[.int .i64 f]) (hf : f ≠ 0) (hz : ov neg xs = some z) :
    Calls Tryz.prog 134 #[.pointer (some ⟨p, 0, none⟩), .agg #[.bool neg, .slice A n c], .int .i64 er] w (RetM z f p w) := by
  have HZ := Lib.hid hz
  clear hz
  have b1 := Blk.alloc (Blk.alloc hp (.cells #[.bool neg, .slice A n c] 25)) (.cells #[.bool false, .slice none 0 0] 25)
  have k0 : ((w.alloc (.cells #[.bool neg, .slice A n c] 25)).alloc (.cells #[.bool false, .slice none 0 0] 25)).cell? ⟨p, 0, none⟩ = some (.int .i64 f) := by rw [Blk.cell b1 0]; rfl
  have k1 := Blk.frozen b1 0
  have hlt := Blk.lt hp
  have hf0 : (f == 0) = false := by rw [beq_eq_false_iff_ne]; exact hf
  have hf1 : (f != 0) = true := by simpa [bne] using hf0
  have HK := Lib.hid ((((Kp.below (Below.refl _ _) hp)).alloc (.cells #[.bool neg, .slice A n c] 25)).alloc (.cells #[.bool neg, .slice A n c] 25))
  have HP := Lib.hid hp
  have B1 := Lib.hid b1
  have HS := Lib.hid h
  clear hp b1 h hf
  go_enter Tryz.func134, Tryz.ntmps134
  go_wp2
  refine bodyPost_ret (v := .agg #[.bool neg, .slice A n c]) (by simp [results, Tryz.results134, go_sem]) rfl ?_
  exact ⟨neg, A, n, c, xs, rfl, (HK.out).sl _ _ _ _ HS.out, HZ.out, HK.out⟩
theorem keep_any (neg : Bool) (A : Option Addr) (n c p : Nat) (xs : List Nat) (er z f f' : Int) (w : World) (h : Sl w w.heap.size A n c xs) (hp : Blk w p 115 #[.int .i64 f]) (hz : ov neg xs = some z) (hf : Kf f er f') :
    Calls Tryz.prog 134 #[.pointer (some ⟨p, 0, none⟩), .agg #[.bool neg, .slice A n c], .int .i64 er] w (RetM z f' p w) := by
  rcases hf with ⟨rfl, rfl⟩ | ⟨h0, rfl⟩
  · exact keep_first neg A n c p xs f' z w h hp hz
  · exact keep_later neg A n c p xs er z w h f' hp h0 hz
theorem cadd_any (neg neg' : Bool) (A A' : Option Addr) (n c n' c' p : Nat) (xs ys : List Nat) (a b f f' : Int) (w : World) (h : Sl w w.heap.size A n c xs) (h' : Sl w w.heap.size A' n' c' ys) (hx : ov neg xs = some a) (hy : ov neg' ys = some b)
    (hp : Blk w p 115 #[.int .i64 f]) (hf : Kf f (fitE (a + b)) f') :
    Calls Tryz.prog 87 #[.pointer (some ⟨p, 0, none⟩), .agg #[.bool neg, .slice A n c], .agg #[.bool neg', .slice A' n' c']] w (RetM (fitZ (a + b)) f' p w) := by
  have C0 : ∀ w : World, Sl w w.heap.size A n c xs → Sl w w.heap.size A' n' c' ys → Calls Tryz.prog 45 #[.agg #[.bool neg, .slice A n c], .agg #[.bool neg', .slice A' n' c']] w (RetIE (fitZ (a + b)) (fitE (a + b)) w) := by
    intro w h h'
    have := add_ov (neg := neg) (neg' := neg') h h'
    rw [hx, hy] at this
    exact this
  have hz9 := fitZ_lt (a + b)
  generalize fitZ (a + b) = z at *
  generalize fitE (a + b) = er at *
  have HC := Lib.hid C0
  have HF := Lib.hid hf
  have HP := Lib.hid hp
  have HS := Lib.hid h
  have HS' := Lib.hid h'
  have HZ := Lib.hid hz9
  have hlt := Blk.lt hp
  clear C0 hf hp h h' hx hy hz9
  go_enter Tryz.func87, Tryz.ntmps87
  go_wp2_with fail
  generalize hW : World.alloc (World.alloc (World.alloc w _) _) _ = V
  have hb : Below w.heap.size w V := by rw [← hW]; exact (((Below.refl _ _).alloc (Nat.le_refl _) _).alloc (by simp) _).alloc (by simp; omega) _
  have rb : Bx V (w.heap.size + 1 + 1) false none 0 0 := by
    rw [← hW]
    have := Bx.new ((w.alloc (.cells #[.bool neg, .slice A n c] 25)).alloc (.cells #[.bool neg', .slice A' n' c'] 25)) false none 0 0
    simpa using this
  have HB := Lib.hid hb
  clear hW hb
  refine (HC.out V (HS.out.on HB.out) (HS'.out.on HB.out)).mono ?_
  rintro e w1 ⟨A1, n1, c1, xs1, rfl, hs1, hx1, hv1, hb1⟩
  have HO := Lib.hid (ov_res hs1.ok hx1 hv1 HZ.out)
  have K1 := Lib.hid ((Kp.below HB.out HP.out).trans (Kp.below hb1 (Blk.below HP.out HB.out (Blk.lt HP.out))))
  have rb1 := rb.below hb1 rb.lt
  have lt1 := rb1.lt
  have HS1 := Lib.hid hs1
  clear hb1 hv1 hx1 rb hs1
  go_wp2_with fail
  refine (keep_any _ _ _ _ p _ _ _ f f' w1 HS1.out K1.out.cl HO.out HF.out).mono ?_
  rintro e w2 ⟨neg2, A2, n2, c2, xs2, rfl, hs2, ho2, hk2⟩
  have hne : w.heap.size + 1 + 1 ≠ p := by omega
  have rb2 : Bx w2 (w.heap.size + 1 + 1) false none 0 0 := hk2.blk _ _ _ hne rb1
  have K2 := Lib.hid (K1.out.trans hk2)
  have HR := Lib.hid (And.intro hs2 ho2)
  have RB := Lib.hid rb2
  have j0 := rb2.c0
  have j1 := rb2.c1
  have j2 := rb2.f 0
  have j3 := rb2.f 1
  clear hk2 hs2 ho2 rb2 rb1 lt1 hne
  go_wp2
  refine bodyPost_ret (v := .agg #[.bool neg2, .slice A2 n2 c2]) (by simp [results, Tryz.results87, go_sem, j0, j1]) rfl ?_
  exact ⟨neg2, A2, n2, c2, xs2, rfl, HR.out.1.ret RB.out _ _, HR.out.2, K2.out.ret RB.out (by omega) hlt _ _⟩
theorem csub_any (neg neg' : Bool) (A A' : Option Addr) (n c n' c' p : Nat) (xs ys : List Nat) (a b f f' : Int) (w : World) (h : Sl w w.heap.size A n c xs) (h' : Sl w w.heap.size A' n' c' ys) (hx : ov neg xs = some a) (hy : ov neg' ys = some b)
    (hp : Blk w p 115 #[.int .i64 f]) (hf : Kf f (fitE (a - b)) f') :
    Calls Tryz.prog 166 #[.pointer (some ⟨p, 0, none⟩), .agg #[.bool neg, .slice A n c], .agg #[.bool neg', .slice A' n' c']] w (RetM (fitZ (a - b)) f' p w) := by
  have C0 : ∀ w : World, Sl w w.heap.size A n c xs → Sl w w.heap.size A' n' c' ys → Calls Tryz.prog 192 #[.agg #[.bool neg, .slice A n c], .agg #[.bool neg', .slice A' n' c']] w (RetIE (fitZ (a - b)) (fitE (a - b)) w) := by
    intro w h h'
    have := sub_ov (neg := neg) (neg' := neg') h h'
    rw [hx, hy] at this
    exact this
  have hz9 := fitZ_lt (a - b)
  generalize fitZ (a - b) = z at *
  generalize fitE (a - b) = er at *
  have HC := Lib.hid C0
  have HF := Lib.hid hf
  have HP := Lib.hid hp
  have HS := Lib.hid h
  have HS' := Lib.hid h'
  have HZ := Lib.hid hz9
  have hlt := Blk.lt hp
  clear C0 hf hp h h' hx hy hz9
  go_enter Tryz.func166, Tryz.ntmps166
  go_wp2_with fail
  generalize hW : World.alloc (World.alloc (World.alloc w _) _) _ = V
  have hb : Below w.heap.size w V := by rw [← hW]; exact (((Below.refl _ _).alloc (Nat.le_refl _) _).alloc (by simp) _).alloc (by simp; omega) _
  have rb : Bx V (w.heap.size + 1 + 1) false none 0 0 := by
    rw [← hW]
    have := Bx.new ((w.alloc (.cells #[.bool neg, .slice A n c] 25)).alloc (.cells #[.bool neg', .slice A' n' c'] 25)) false none 0 0
    simpa using this
  have HB := Lib.hid hb
  clear hW hb
  refine (HC.out V (HS.out.on HB.out) (HS'.out.on HB.out)).mono ?_
  rintro e w1 ⟨A1, n1, c1, xs1, rfl, hs1, hx1, hv1, hb1⟩
  have HO := Lib.hid (ov_res hs1.ok hx1 hv1 HZ.out)
  have K1 := Lib.hid ((Kp.below HB.out HP.out).trans (Kp.below hb1 (Blk.below HP.out HB.out (Blk.lt HP.out))))
  have rb1 := rb.below hb1 rb.lt
  have lt1 := rb1.lt
  have HS1 := Lib.hid hs1
  clear hb1 hv1 hx1 rb hs1
  go_wp2_with fail
  refine (keep_any _ _ _ _ p _ _ _ f f' w1 HS1.out K1.out.cl HO.out HF.out).mono ?_
  rintro e w2 ⟨neg2, A2, n2, c2, xs2, rfl, hs2, ho2, hk2⟩
  have hne : w.heap.size + 1 + 1 ≠ p := by omega
  have rb2 : Bx w2 (w.heap.size + 1 + 1) false none 0 0 := hk2.blk _ _ _ hne rb1
  have K2 := Lib.hid (K1.out.trans hk2)
  have HR := Lib.hid (And.intro hs2 ho2)
  have RB := Lib.hid rb2
  have j0 := rb2.c0
  have j1 := rb2.c1
  have j2 := rb2.f 0
  have j3 := rb2.f 1
  clear hk2 hs2 ho2 rb2 rb1 lt1 hne
  go_wp2
  refine bodyPost_ret (v := .agg #[.bool neg2, .slice A2 n2 c2]) (by simp [results, Tryz.results166, go_sem, j0, j1]) rfl ?_
  exact ⟨neg2, A2, n2, c2, xs2, rfl, HR.out.1.ret RB.out _ _, HR.out.2, K2.out.ret RB.out (by omega) hlt _ _⟩
theorem cmul_any (neg neg' : Bool) (A A' : Option Addr) (n c n' c' p : Nat) (xs ys : List Nat) (a b f f' : Int) (w : World) (h : Sl w w.heap.size A n c xs) (h' : Sl w w.heap.size A' n' c' ys) (hx : ov neg xs = some a) (hy : ov neg' ys = some b)
    (hp : Blk w p 115 #[.int .i64 f]) (hf : Kf f (fitE (a * b)) f') :
    Calls Tryz.prog 88 #[.pointer (some ⟨p, 0, none⟩), .agg #[.bool neg, .slice A n c], .agg #[.bool neg', .slice A' n' c']] w (RetM (fitZ (a * b)) f' p w) := by
  have C0 : ∀ w : World, Sl w w.heap.size A n c xs → Sl w w.heap.size A' n' c' ys → Calls Tryz.prog 44 #[.agg #[.bool neg, .slice A n c], .agg #[.bool neg', .slice A' n' c']] w (RetIE (fitZ (a * b)) (fitE (a * b)) w) := by
    intro w h h'
    have := mul_ov (neg := neg) (neg' := neg') h h'
    rw [hx, hy] at this
    exact this
  have hz9 := fitZ_lt (a * b)
  generalize fitZ (a * b) = z at *
  generalize fitE (a * b) = er at *
  have HC := Lib.hid C0
  have HF := Lib.hid hf
  have HP := Lib.hid hp
  have HS := Lib.hid h
  have HS' := Lib.hid h'
  have HZ := Lib.hid hz9
  have hlt := Blk.lt hp
  clear C0 hf hp h h' hx hy hz9
  go_enter Tryz.func88, Tryz.ntmps88
  go_wp2_with fail
  generalize hW : World.alloc (World.alloc (World.alloc w _) _) _ = V
  have hb : Below w.heap.size w V := by rw [← hW]; exact (((Below.refl _ _).alloc (Nat.le_refl _) _).alloc (by simp) _).alloc (by simp; omega) _
  have rb : Bx V (w.heap.size + 1 + 1) false none 0 0 := by
    rw [← hW]
    have := Bx.new ((w.alloc (.cells #[.bool neg, .slice A n c] 25)).alloc (.cells #[.bool neg', .slice A' n' c'] 25)) false none 0 0
    simpa using this
  have HB := Lib.hid hb
  clear hW hb
  refine (HC.out V (HS.out.on HB.out) (HS'.out.on HB.out)).mono ?_
  rintro e w1 ⟨A1, n1, c1, xs1, rfl, hs1, hx1, hv1, hb1⟩
  have HO := Lib.hid (ov_res hs1.ok hx1 hv1 HZ.out)
  have K1 := Lib.hid ((Kp.below HB.out HP.out).trans (Kp.below hb1 (Blk.below HP.out HB.out (Blk.lt HP.out))))
  have rb1 := rb.below hb1 rb.lt
  have lt1 := rb1.lt
  have HS1 := Lib.hid hs1
  clear hb1 hv1 hx1 rb hs1
  go_wp2_with fail
  refine (keep_any _ _ _ _ p _ _ _ f f' w1 HS1.out K1.out.cl HO.out HF.out).mono ?_
  rintro e w2 ⟨neg2, A2, n2, c2, xs2, rfl, hs2, ho2, hk2⟩
  have hne : w.heap.size + 1 + 1 ≠ p := by omega
  have rb2 : Bx w2 (w.heap.size + 1 + 1) false none 0 0 := hk2.blk _ _ _ hne rb1
  have K2 := Lib.hid (K1.out.trans hk2)
  have HR := Lib.hid (And.intro hs2 ho2)
  have RB := Lib.hid rb2
  have j0 := rb2.c0
  have j1 := rb2.c1
  have j2 := rb2.f 0
  have j3 := rb2.f 1
  clear hk2 hs2 ho2 rb2 rb1 lt1 hne
  go_wp2
  refine bodyPost_ret (v := .agg #[.bool neg2, .slice A2 n2 c2]) (by simp [results, Tryz.results88, go_sem, j0, j1]) rfl ?_
  exact ⟨neg2, A2, n2, c2, xs2, rfl, HR.out.1.ret RB.out _ _, HR.out.2, K2.out.ret RB.out (by omega) hlt _ _⟩
end Go.Proofs.YtjbnclfbkccieaaGreatDoor
namespace Go.Proofs.YtjbnclfbkccieaaGreatDoor
open Go.RowKit
theorem allValid_one (q : RVal) (g : Nat) (o : Bool) (w : World) (h : q.In w) (hB : Blk w g 27 #[.bool q.g, .slice q.A q.n q.c, .bool q.gd, .slice q.Ad q.nd q.cd]) (e : (rv q.o q.od).isSome = o) :
    Calls Tryz.prog 133 #[.slice (some ⟨g, 0, none⟩) 1 1] w fun e w' => e = .returned (.bool o) ∧ Below w.heap.size w w' := by
  have k0 : w.cell? ⟨g, 0, none⟩ = some (.bool q.g) := by rw [Blk.cell hB 0]; rfl
  have k1 : w.cell? ⟨g, 1, none⟩ = some (.slice q.A q.n q.c) := by rw [Blk.cell hB 1]; rfl
  have k2 : w.cell? ⟨g, 2, none⟩ = some (.bool q.gd) := by rw [Blk.cell hB 2]; rfl
  have k3 : w.cell? ⟨g, 3, none⟩ = some (.slice q.Ad q.nd q.cd) := by rw [Blk.cell hB 3]; rfl
  have HS := Lib.hid h
  have HE := Lib.hid e
  clear h hB e
  rcases o with _ | _
  all_goals
    go_enter Tryz.func133, Tryz.ntmps133
    go_wp2
    refine wp_loop_rounds 2 ?_
    rw [rounds_succ]
    go_wp2_with fail
    have C := ratValid_r (HS.out.on (below_new w (.cells #[.bool q.g, .slice q.A q.n q.c, .bool q.gd, .slice q.Ad q.nd q.cd] 27)))
    rw [HE.out] at C
    refine C.mono ?_
    clear C
    rintro e w1 ⟨rfl, hb1⟩
    have HB1 := Lib.hid (below_chain (below_new w (.cells #[.bool q.g, .slice q.A q.n q.c, .bool q.gd, .slice q.Ad q.nd q.cd] 27)) (by simp) hb1)
    clear hb1
    go_wp2
    try (rw [rounds_succ]; go_wp2)
    go_ret
    exact ⟨rfl, HB1.out⟩
theorem allValid_two (q q' : RVal) (g : Nat) (o o' : Bool) (w : World) (h : q.In w) (h' : q'.In w) (hB : Blk w g 27 #[.bool q.g, .slice q.A q.n q.c, .bool q.gd, .slice q.Ad q.nd q.cd, .bool q'.g, .slice q'.A q'.n q'.c, .bool q'.gd, .slice q'.Ad q'.nd q'.cd])
    (e : (rv q.o q.od).isSome = o) (e' : (rv q'.o q'.od).isSome = o') :
    Calls Tryz.prog 133 #[.slice (some ⟨g, 0, none⟩) 2 2] w fun e w' => e = .returned (.bool (o && o')) ∧ Below w.heap.size w w' := by
  have k0 : w.cell? ⟨g, 0, none⟩ = some (.bool q.g) := by rw [Blk.cell hB 0]; rfl
  have k1 : w.cell? ⟨g, 1, none⟩ = some (.slice q.A q.n q.c) := by rw [Blk.cell hB 1]; rfl
  have k2 : w.cell? ⟨g, 2, none⟩ = some (.bool q.gd) := by rw [Blk.cell hB 2]; rfl
  have k3 : w.cell? ⟨g, 3, none⟩ = some (.slice q.Ad q.nd q.cd) := by rw [Blk.cell hB 3]; rfl
  have HBb := Lib.hid hB
  have HS := Lib.hid h
  have HS' := Lib.hid h'
  have HE := Lib.hid e
  have HE' := Lib.hid e'
  clear h h' hB e e'
  rcases o with _ | _
  · show Calls Tryz.prog 133 #[.slice (some ⟨g, 0, none⟩) 2 2] w fun e w' => e = .returned (.bool false) ∧ Below w.heap.size w w'
    go_enter Tryz.func133, Tryz.ntmps133
    go_wp2
    refine wp_loop_rounds 3 ?_
    rw [rounds_succ]
    go_wp2_with fail
    have C := ratValid_r (HS.out.on (below_new w (.cells #[.bool q.g, .slice q.A q.n q.c, .bool q.gd, .slice q.Ad q.nd q.cd] 27)))
    rw [HE.out] at C
    refine C.mono ?_
    clear C
    rintro e w1 ⟨rfl, hb1⟩
    have HB1 := Lib.hid (below_chain (below_new w (.cells #[.bool q.g, .slice q.A q.n q.c, .bool q.gd, .slice q.Ad q.nd q.cd] 27)) (by simp) hb1)
    clear hb1
    go_wp2
    go_ret
    exact ⟨rfl, HB1.out⟩
  · rcases o' with _ | _
    all_goals
      go_enter Tryz.func133, Tryz.ntmps133
      go_wp2
      refine wp_loop_rounds 3 ?_
      rw [rounds_succ]
      go_wp2_with fail
      have C := ratValid_r (HS.out.on (below_new w (.cells #[.bool q.g, .slice q.A q.n q.c, .bool q.gd, .slice q.Ad q.nd q.cd] 27)))
      rw [HE.out] at C
      refine C.mono ?_
      clear C
      rintro e w1 ⟨rfl, hb1⟩
      have hb := below_chain (below_new w (.cells #[.bool q.g, .slice q.A q.n q.c, .bool q.gd, .slice q.Ad q.nd q.cd] 27)) (by simp) hb1
      have HB1 := Lib.hid hb
      have hB1 := Blk.below HBb.out hb (Blk.lt HBb.out)
      have j0 : w1.cell? ⟨g, 4, none⟩ = some (.bool q'.g) := by rw [Blk.cell hB1 4]; rfl
      have j1 : w1.cell? ⟨g, 5, none⟩ = some (.slice q'.A q'.n q'.c) := by rw [Blk.cell hB1 5]; rfl
      have j2 : w1.cell? ⟨g, 6, none⟩ = some (.bool q'.gd) := by rw [Blk.cell hB1 6]; rfl
      have j3 : w1.cell? ⟨g, 7, none⟩ = some (.slice q'.Ad q'.nd q'.cd) := by rw [Blk.cell hB1 7]; rfl
      clear hb1 hb hB1 k0 k1 k2 k3
      go_wp2
      rw [rounds_succ]
      go_wp2_with fail
      have C := ratValid_r ((HS'.out.on HB1.out).on (below_new w1 (.cells #[.bool q'.g, .slice q'.A q'.n q'.c, .bool q'.gd, .slice q'.Ad q'.nd q'.cd] 27)))
      rw [HE'.out] at C
      refine C.mono ?_
      clear C
      rintro e w2 ⟨rfl, hb2⟩
      have HB2 := Lib.hid (below_chain HB1.out HB1.out.size (below_chain (below_new w1 (.cells #[.bool q'.g, .slice q'.A q'.n q'.c, .bool q'.gd, .slice q'.Ad q'.nd q'.cd] 27)) (by simp) hb2))
      clear hb2
      go_wp2
      try (rw [rounds_succ]; go_wp2)
      go_ret
      exact ⟨rfl, HB2.out⟩
end Go.Proofs.YtjbnclfbkccieaaGreatDoor
