/-
 Stage 2: the rational's Valid. Stage 2: rational numbers in numbers: lowest terms, the arithmetic, how many bits it needs. No program. Stage 2: a rational number in memory; the program's Valid, in numbers. Stage 2: the methods of the rational's calls: a call of an integer's operation, whose first error is kept. Stage 2: allValid. Stage 2: Make. Stage 2: Of, of the program's integers and of its rationals, and the law's own of. Stage 3: the program's polynomials on lists of rationals: what its functions compute, step by step, and the values of the laws' own test. Stage 3: what the program's func
-/
import Derived.Test.YtmncfbfepdbioaaGreatDoorBaseD
set_option maxHeartbeats 1000000
namespace Go.Proofs.YtmncfbfepdbioaaGreatDoor
open Go.RowKit
def rvB (neg' : Bool) (n' : Nat) (o o' : Option Int) : Bool := !neg' && !(decide (n' = 0)) && (o2E gcdZ o o' == 0) && oneB (some (o2Z gcdZ o o'))
theorem ratValid_neg (neg : Bool) (A A' : Option Addr) (n c n' c' : Nat) (w : World) :
 Calls Tryz.prog 62 #[.agg #[.bool neg, .slice A n c, .bool true, .slice A' n' c']] w fun e w' => e = .returned (.bool false) /\ Below w.heap.size w w' := by
 go_enter Tryz.func62, Tryz.ntmps62
 have B := Blk.new w 27 #[.bool neg, .slice A n c, .bool true, .slice A' n' c']
 have k2 : (w.alloc (.cells #[.bool neg, .slice A n c, .bool true, .slice A' n' c'] 27)).cell? ⟨w.heap.size, 2, none⟩ = some (.bool true) := by rw [Blk.cell B 2]; rfl
 clear B
 go_wp2_with fail
 go_ret
 exact ⟨rfl, below_new _ _⟩
theorem ratValid_zero (neg : Bool) (A A' : Option Addr) (n c c' : Nat) (w : World) :
 Calls Tryz.prog 62 #[.agg #[.bool neg, .slice A n c, .bool false, .slice A' 0 c']] w fun e w' => e = .returned (.bool false) /\ Below w.heap.size w w' := by
 go_enter Tryz.func62, Tryz.ntmps62
 have B := Blk.new w 27 #[.bool neg, .slice A n c, .bool false, .slice A' 0 c']
 have k2 : (w.alloc (.cells #[.bool neg, .slice A n c, .bool false, .slice A' 0 c'] 27)).cell? ⟨w.heap.size, 2, none⟩ = some (.bool false) := by rw [Blk.cell B 2]; rfl
 have k3 : (w.alloc (.cells #[.bool neg, .slice A n c, .bool false, .slice A' 0 c'] 27)).cell? ⟨w.heap.size, 3, none⟩ = some (.slice A' 0 c') := by rw [Blk.cell B 3]; rfl
 clear B
 go_wp2_with fail
 go_ret
 exact ⟨rfl, below_new _ _⟩
theorem ratValid_e (neg : Bool) (A A' : Option Addr) (n c n' c' : Nat) (xs : List Nat) (ys : List Nat) (w : World) (h : Sl w w.heap.size A n c xs) (h' : Sl w w.heap.size A' n' c' ys) (hn : n' ≠ 0) (z e : Int)
 (HG : Hid (∀ w : World, Sl w w.heap.size A n c xs -> Sl w w.heap.size A' n' c' ys -> Calls Tryz.prog 100 #[.agg #[.bool neg, .slice A n c], .agg #[.bool false, .slice A' n' c']] w (RetIE z e w))) (he : (e == 0) = false) :
 Calls Tryz.prog 62 #[.agg #[.bool neg, .slice A n c, .bool false, .slice A' n' c']] w fun e w' => e = .returned (.bool false) /\ Below w.heap.size w w' := by
 go_enter Tryz.func62, Tryz.ntmps62
 have B := Blk.new w 27 #[.bool neg, .slice A n c, .bool false, .slice A' n' c']
 have k0 : (w.alloc (.cells #[.bool neg, .slice A n c, .bool false, .slice A' n' c'] 27)).cell? ⟨w.heap.size, 0, none⟩ = some (.bool neg) := by rw [Blk.cell B 0]; rfl
 have k1 : (w.alloc (.cells #[.bool neg, .slice A n c, .bool false, .slice A' n' c'] 27)).cell? ⟨w.heap.size, 1, none⟩ = some (.slice A n c) := by rw [Blk.cell B 1]; rfl
 have k2 : (w.alloc (.cells #[.bool neg, .slice A n c, .bool false, .slice A' n' c'] 27)).cell? ⟨w.heap.size, 2, none⟩ = some (.bool false) := by rw [Blk.cell B 2]; rfl
 have k3 : (w.alloc (.cells #[.bool neg, .slice A n c, .bool false, .slice A' n' c'] 27)).cell? ⟨w.heap.size, 3, none⟩ = some (.slice A' n' c') := by rw [Blk.cell B 3]; rfl
 clear B
 have hn0 : ((n' : Int) == 0) = false := by rw [beq_eq_false_iff_ne]; omega
 have hn1 : (n' == 0) = false := by rw [beq_eq_false_iff_ne]; exact hn
 have BN := below_new w (.cells #[.bool neg, .slice A n c, .bool false, .slice A' n' c'] 27)
 have hs := Lib.hid (h.on BN)
 have hs' := Lib.hid (h'.on BN)
 have HB := Lib.hid BN
 clear h h' BN
 go_wp2_with fail
 refine (HG.out _ hs.out hs'.out).mono ?_
 rintro e1 w1 ⟨A1, n1, c1, xs1, rfl, hs1, hx1, hv1, hb1⟩
 have HB1 := Lib.hid (below_chain HB.out (by simp) hb1)
 clear k0 k1 k2 k3 hb1
 go_wp2
 go_ret
 exact ⟨rfl, HB1.out.alloc HB1.out.size _⟩
theorem ratValid_one (neg : Bool) (A A' : Option Addr) (n c n' c' : Nat) (xs : List Nat) (ys : List Nat) (w : World) (h : Sl w w.heap.size A n c xs) (h' : Sl w w.heap.size A' n' c' ys) (hn : n' ≠ 0) (z e : Int)
 (HG : Hid (∀ w : World, Sl w w.heap.size A n c xs -> Sl w w.heap.size A' n' c' ys -> Calls Tryz.prog 100 #[.agg #[.bool neg, .slice A n c], .agg #[.bool false, .slice A' n' c']] w (RetIE z e w))) (he : e = 0) (hz : z.natAbs < BIG) :
 Calls Tryz.prog 62 #[.agg #[.bool neg, .slice A n c, .bool false, .slice A' n' c']] w fun e w' => e = .returned (.bool (oneB (some z))) /\ Below w.heap.size w w' := by
 subst he
 go_enter Tryz.func62, Tryz.ntmps62
 have B := Blk.new w 27 #[.bool neg, .slice A n c, .bool false, .slice A' n' c']
 have k0 : (w.alloc (.cells #[.bool neg, .slice A n c, .bool false, .slice A' n' c'] 27)).cell? ⟨w.heap.size, 0, none⟩ = some (.bool neg) := by rw [Blk.cell B 0]; rfl
 have k1 : (w.alloc (.cells #[.bool neg, .slice A n c, .bool false, .slice A' n' c'] 27)).cell? ⟨w.heap.size, 1, none⟩ = some (.slice A n c) := by rw [Blk.cell B 1]; rfl
 have k2 : (w.alloc (.cells #[.bool neg, .slice A n c, .bool false, .slice A' n' c'] 27)).cell? ⟨w.heap.size, 2, none⟩ = some (.bool false) := by rw [Blk.cell B 2]; rfl
 have k3 : (w.alloc (.cells #[.bool neg, .slice A n c, .bool false, .slice A' n' c'] 27)).cell? ⟨w.heap.size, 3, none⟩ = some (.slice A' n' c') := by rw [Blk.cell B 3]; rfl
 clear B
 have hn0 : ((n' : Int) == 0) = false := by rw [beq_eq_false_iff_ne]; omega
 have hn1 : (n' == 0) = false := by rw [beq_eq_false_iff_ne]; exact hn
 have BN := below_new w (.cells #[.bool neg, .slice A n c, .bool false, .slice A' n' c'] 27)
 have hs := Lib.hid (h.on BN)
 have hs' := Lib.hid (h'.on BN)
 have HB := Lib.hid BN
 clear h h' BN
 go_wp2_with fail
 refine (HG.out _ hs.out hs'.out).mono ?_
 rintro e1 w1 ⟨A1, n1, c1, xs1, rfl, hs1, hx1, hv1, hb1⟩
 have HB1 := Lib.hid (below_chain HB.out (by simp) hb1)
 clear k0 k1 k2 k3 hb1
 go_wp2_with fail
 have hov := ov_res hs1.ok hx1 hv1 hz
 have hs2 := hs1.on (below_new w1 (.cells #[.bool (decide (z < 0)), .slice A1 n1 c1] 25))
 have C := isOne_ov (neg := decide (z < 0)) hs2
 rw [hov] at C
 refine C.mono ?_
 rintro e w2 ⟨rfl, hb2⟩
 have HB2 := Lib.hid (below_chain (HB1.out.alloc HB1.out.size (.cells #[.bool (decide (z < 0)), .slice A1 n1 c1] 25)) (by have := HB1.out.size; simp; omega) hb2)
 clear hb2 hs2 C hs1 hx1 hv1
 go_wp2
 go_ret
 exact ⟨rfl, HB2.out⟩
theorem ratValid_any (neg neg' : Bool) (A A' : Option Addr) (n c n' c' : Nat) (xs ys : List Nat) (w : World) (h : Sl w w.heap.size A n c xs) (h' : Sl w w.heap.size A' n' c' ys) :
 Calls Tryz.prog 62 #[.agg #[.bool neg, .slice A n c, .bool neg', .slice A' n' c']] w fun e w' => e = .returned (.bool (rvB neg' n' (ov neg xs) (ov neg' ys))) /\ Below w.heap.size w w' := by
 rcases neg' with _ | _
 . by_cases hn : n' = 0
   . subst hn
     exact ratValid_zero neg A A' n c c' w
   . have HG : ∀ w : World, Sl w w.heap.size A n c xs -> Sl w w.heap.size A' n' c' ys -> Calls Tryz.prog 100 #[.agg #[.bool neg, .slice A n c], .agg #[.bool false, .slice A' n' c']] w (RetIE (o2Z gcdZ (ov neg xs) (ov false ys)) (o2E gcdZ (ov neg xs) (ov false ys)) w) :=
      fun w h h' => gcd_ov h h'
     have hz := o2Z_lt gcdZ (ov neg xs) (ov false ys)
     have hr : rvB false n' (ov neg xs) (ov false ys) = ((o2E gcdZ (ov neg xs) (ov false ys) == 0) && oneB (some (o2Z gcdZ (ov neg xs) (ov false ys)))) := by
      unfold rvB
      rw [decide_eq_false hn]; rfl
     rw [hr]
     generalize o2Z gcdZ (ov neg xs) (ov false ys) = z at *
     generalize o2E gcdZ (ov neg xs) (ov false ys) = e at *
     rcases he : (e == 0) with _ | _
     . exact ratValid_e neg A A' n c n' c' xs ys w h h' hn z e HG he
     . exact ratValid_one neg A A' n c n' c' xs ys w h h' hn z e HG (eq_of_beq he) hz
 . exact ratValid_neg neg A A' n c n' c' w
end Go.Proofs.YtmncfbfepdbioaaGreatDoor
namespace Go.Proofs.YtmncfbfepdbioaaGreatDoor
open Go.RowKit
theorem ex_q {q r a c : Int} (h : q * c + r = a) (hr : r.natAbs < c.natAbs) (hd : c ∣ a) : q = a / c /\ r = 0 := by
 have h0 : c ∣ r := by
  have : c ∣ a - q * c := Int.dvd_sub hd (Int.dvd_mul_left _ _)
  have e : a - q * c = r := by omega
  rwa [e] at this
 have hr0 : r = 0 := by
  rcases Int.natAbs_dvd_natAbs.2 h0 with ⟨k, hk⟩
  rcases Nat.eq_zero_or_pos k with rfl | hk0
  . omega
  . have := Nat.le_mul_of_pos_right c.natAbs hk0
    omega
 refine ⟨?_, hr0⟩
 subst hr0
 have hc : c ≠ 0 := by omega
 rw [<- h, Int.add_zero, Int.mul_ediv_cancel _ hc]
theorem mk_num (a b : Int) (hb : b ≠ 0) : (b.sign * gcdZ a b ∣ a) /\ (b.sign * gcdZ a b ∣ b) /\ a / (b.sign * gcdZ a b) = (Rat.divInt a b).num /\ b / (b.sign * gcdZ a b) = ((Rat.divInt a b).den : Int) /\ b.sign * gcdZ a b ≠ 0 := by
 rw [Rat.num_divInt, Rat.den_divInt, if_neg hb]
 have e : ((b.gcd a : Nat) : Int) = gcdZ a b := by unfold gcdZ Int.gcd; rw [Nat.gcd_comm]
 have ha : gcdZ a b ∣ a := by unfold gcdZ; exact Int.ofNat_dvd_left.2 (Nat.gcd_dvd_left _ _)
 have hb' : gcdZ a b ∣ b := by unfold gcdZ; exact Int.ofNat_dvd_left.2 (Nat.gcd_dvd_right _ _)
 have hp : 0 < gcdZ a b := by
  unfold gcdZ
  have := Nat.gcd_pos_of_pos_right a.natAbs (n := b.natAbs) (by omega)
  omega
 rw [Int.natCast_ediv, e]
 generalize gcdZ a b = g at *
 rcases Int.lt_or_gt_of_ne hb with h | h
 . rw [Int.sign_eq_neg_one_of_neg h]
   have e1 : -1 * g = -g := by omega
   have e2 : -1 * a = -a := by omega
   rw [e1, e2, Int.ediv_neg, Int.ediv_neg, Int.neg_ediv_of_dvd ha, show ((b.natAbs : Nat) : Int) = -b by omega, Int.neg_ediv_of_dvd hb']
   exact ⟨Int.neg_dvd.2 ha, Int.neg_dvd.2 hb', rfl, rfl, by omega⟩
 . rw [Int.sign_eq_one_of_pos h, Int.one_mul, Int.one_mul, show ((b.natAbs : Nat) : Int) = b by omega]
   exact ⟨ha, hb', rfl, rfl, by omega⟩
def rv : Option Int -> Option Int -> Option Rat
 | some a, some b => if 0 < b /\ gcdZ a b = 1 then some (Rat.divInt a b) else none
 | _, _ => none
theorem rv_some {o o' : Option Int} {q : Rat} (h : rv o o' = some q) : o = some q.num /\ o' = some (q.den : Int) := by
 rcases o with _ | a <;> rcases o' with _ | b <;> simp only [rv] at h <;> try cases h
 by_cases hc : 0 < b /\ gcdZ a b = 1
 . rw [if_pos hc] at h
   injection h with h
   subst h
   have := mk_num a b (by omega)
   rw [hc.2, Int.sign_eq_one_of_pos hc.1, Int.one_mul] at this
   rw [<- this.2.2.1, <- this.2.2.2.1]
   simp
 . rw [if_neg hc] at h; cases h
theorem rv_of (q : Rat) : rv (some q.num) (some (q.den : Int)) = some q := by
 have hd := q.den_nz
 have hg : gcdZ q.num q.den = 1 := by
  have := q.reduced
  unfold gcdZ
  rw [Int.natAbs_natCast]
  have : Nat.gcd q.num.natAbs q.den = 1 := this
  rw [this]; rfl
 unfold rv
 show (if 0 < (q.den : Int) /\ gcdZ q.num q.den = 1 then some (Rat.divInt q.num q.den) else none) = some q
 rw [if_pos ⟨by omega, hg⟩, Rat.num_divInt_den]
theorem divInt_le (a b : Int) (hb : b ≠ 0) : (Rat.divInt a b).num.natAbs <= a.natAbs /\ (Rat.divInt a b).den <= b.natAbs := by
 rw [Rat.num_divInt, Rat.den_divInt, if_neg hb]
 refine ⟨?_, Nat.div_le_self _ _⟩
 refine Nat.le_trans (Int.natAbs_ediv_le_natAbs _ _) ?_
 rw [Int.natAbs_mul, Int.natAbs_sign_of_ne_zero hb, Nat.one_mul]
 exact Nat.le_refl _
def Bd (e : Nat) (q : Rat) : Prop := q.num.natAbs < pw e /\ q.den < pw e
theorem Bd.mono {e f : Nat} {q : Rat} (h : Bd e q) (hf : e <= f) : Bd f q := ⟨Nat.lt_of_lt_of_le h.1 (pw_le hf), Nat.lt_of_lt_of_le h.2 (pw_le hf)⟩
theorem pmul_bd {x y e f : Nat} (hx : x < pw e) (hy : y < pw f) : x * y < pw (e + f) := by
 rw [pw_add]; exact Nat.mul_lt_mul'' hx hy
theorem two_bd {x y z : Int} {e : Nat} (hx : x.natAbs < pw e) (hy : y.natAbs < pw e) (hz : z = x + y \/ z = x - y) : z.natAbs < pw (e + 1) := by
 rw [pw_add]; show _ < pw e * 2; omega
theorem imul_bd {x y : Int} {e f : Nat} (hx : x.natAbs < pw e) (hy : y.natAbs < pw f) : (x * y).natAbs < pw (e + f) := by
 rw [Int.natAbs_mul]; exact pmul_bd hx hy
theorem Bd.divInt {a b : Int} {e : Nat} (hb : b ≠ 0) (h1 : a.natAbs < pw e) (h2 : b.natAbs < pw e) : Bd e (Rat.divInt a b) := by
 have := divInt_le a b hb
 exact ⟨by omega, by omega⟩
theorem den_ne (q : Rat) : (q.den : Int) ≠ 0 := by have := q.den_nz; omega
theorem den2_ne (q r : Rat) : (q.den : Int) * (r.den : Int) ≠ 0 := Int.mul_ne_zero (den_ne q) (den_ne r)
theorem rat_add (q r : Rat) : Rat.divInt (q.num * r.den + r.num * q.den) ((q.den : Int) * r.den) = q + r := by
 rw [<- Int.natCast_mul, Rat.divInt_ofNat, Rat.add_def']
theorem rat_sub (q r : Rat) : Rat.divInt (q.num * r.den - r.num * q.den) ((q.den : Int) * r.den) = q - r := by
 rw [<- Int.natCast_mul, Rat.divInt_ofNat, Rat.sub_def']
theorem rat_mul (q r : Rat) : Rat.divInt (q.num * r.num) ((q.den : Int) * r.den) = q * r := by
 rw [<- Int.natCast_mul, Rat.divInt_ofNat, Rat.mul_def']
theorem rat_div (q r : Rat) : Rat.divInt (q.num * r.den) ((q.den : Int) * r.num) = q / r := by
 rw [<- Rat.divInt_mul_divInt q.num r.den, Rat.num_divInt_den, Rat.div_def, Rat.inv_def]
theorem Bd.num {e : Nat} {q : Rat} (h : Bd e q) : q.num.natAbs < pw e := h.1
theorem Bd.den {e : Nat} {q : Rat} (h : Bd e q) : (q.den : Int).natAbs < pw e := by rw [Int.natAbs_natCast]; exact h.2
theorem Bd.add {e f : Nat} {q r : Rat} (h : Bd e q) (k : Bd f r) : Bd (e + f + 1) (q + r) := by
 rw [<- rat_add]
 refine Bd.divInt (den2_ne q r) (two_bd (imul_bd h.num k.den) (by rw [Nat.add_comm]; exact imul_bd k.num h.den) (Or.inl rfl)) ?_
 exact Nat.lt_of_lt_of_le (imul_bd h.den k.den) (pw_le (by omega))
theorem Bd.sub {e f : Nat} {q r : Rat} (h : Bd e q) (k : Bd f r) : Bd (e + f + 1) (q - r) := by
 rw [<- rat_sub]
 refine Bd.divInt (den2_ne q r) (two_bd (imul_bd h.num k.den) (by rw [Nat.add_comm]; exact imul_bd k.num h.den) (Or.inr rfl)) ?_
 exact Nat.lt_of_lt_of_le (imul_bd h.den k.den) (pw_le (by omega))
theorem Bd.mul {e f : Nat} {q r : Rat} (h : Bd e q) (k : Bd f r) : Bd (e + f) (q * r) := by
 rw [<- rat_mul]
 exact Bd.divInt (den2_ne q r) (imul_bd h.num k.num) (imul_bd h.den k.den)
theorem big_le {z : Int} {e : Nat} (h : z.natAbs < pw e) (he : e <= 4096) : z.natAbs < BIG := by
 rw [big_pw]; exact Nat.lt_of_lt_of_le h (pw_le he)
end Go.Proofs.YtmncfbfepdbioaaGreatDoor
namespace Go.Proofs.YtmncfbfepdbioaaGreatDoor
open Go.RowKit
structure RVal where
 g : Bool
 A : Option Addr
 n : Nat
 c : Nat
 xs : List Nat
 gd : Bool
 Ad : Option Addr
 nd : Nat
 cd : Nat
 ys : List Nat
def RVal.In (q : RVal) (w : World) : Prop := Sl w w.heap.size q.A q.n q.c q.xs /\ Sl w w.heap.size q.Ad q.nd q.cd q.ys
def RVal.o (q : RVal) : Option Int := ov q.g q.xs
def RVal.od (q : RVal) : Option Int := ov q.gd q.ys
theorem RVal.In.on {q : RVal} {w w' : World} (h : q.In w) (hb : Below w.heap.size w w') : q.In w' := ⟨h.1.on hb, h.2.on hb⟩
theorem RVal.In.drew {q : RVal} {w : World} (h : q.In w) : q.In w.drew := ⟨h.1.drew, h.2.drew⟩
theorem RVal.In.drewN {q : RVal} {w : World} (h : q.In w) (k : Nat) : q.In (w.drewN k) := ⟨h.1.drewN k, h.2.drewN k⟩
structure Rb (w : World) (r : Nat) (q : RVal) : Prop where
 bx : Blk w r 27 #[.bool q.g, .slice q.A q.n q.c, .bool q.gd, .slice q.Ad q.nd q.cd]
 sl : q.In w
section
variable {w w' : World} {r : Nat} {q : RVal}
theorem Rb.on (h : Rb w r q) (hb : Below w.heap.size w w') : Rb w' r q := ⟨Blk.below h.bx hb (Blk.lt h.bx), h.sl.on hb⟩
theorem Rb.c0 (h : Rb w r q) : w.cell? ⟨r, 0, none⟩ = some (.bool q.g) := by rw [Blk.cell h.bx 0]; rfl
theorem Rb.c1 (h : Rb w r q) : w.cell? ⟨r, 1, none⟩ = some (.slice q.A q.n q.c) := by rw [Blk.cell h.bx 1]; rfl
theorem Rb.c2 (h : Rb w r q) : w.cell? ⟨r, 2, none⟩ = some (.bool q.gd) := by rw [Blk.cell h.bx 2]; rfl
theorem Rb.c3 (h : Rb w r q) : w.cell? ⟨r, 3, none⟩ = some (.slice q.Ad q.nd q.cd) := by rw [Blk.cell h.bx 3]; rfl
theorem Rb.f (h : Rb w r q) (i : Nat) : w.frozen? ⟨r, i, none⟩ = false := Blk.frozen h.bx i
theorem Rb.lt (h : Rb w r q) : r < w.heap.size := Blk.lt h.bx
theorem Rb.drew (h : Rb w r q) : Rb w.drew r q := ⟨h.bx, h.sl.drew⟩
theorem Rb.drewN (h : Rb w r q) (k : Nat) : Rb (w.drewN k) r q := ⟨h.bx, h.sl.drewN k⟩
theorem Rb.new (h : q.In w) : Rb (w.alloc (.cells #[.bool q.g, .slice q.A q.n q.c, .bool q.gd, .slice q.Ad q.nd q.cd] 27)) w.heap.size q := ⟨Blk.new w _ _, h.on (below_new _ _)⟩
end
def RetR (z zd er : Int) (w : World) (e : Ending) (w' : World) : Prop := ∃ q : RVal, e = .returned (.tuple #[.agg #[.bool q.g, .slice q.A q.n q.c, .bool q.gd, .slice q.Ad q.nd q.cd], .int .i64 er]) /\ q.In w' /\ q.o = some z /\ q.od = some zd /\ Below w.heap.size w w'
theorem fitE_gcd {a b : Int} (ha : a.natAbs < BIG) (hb : b.natAbs < BIG) : fitE (gcdZ a b) = 0 /\ fitZ (gcdZ a b) = gcdZ a b := ⟨(fit_yes (gcdZ_lt ha hb)).2, (fit_yes (gcdZ_lt ha hb)).1⟩
theorem rvB_rv {g gd : Bool} {xs ys : List Nat} {nd : Nat} (hx : Ok xs) (hy : Ok ys) (hl : ys.length = nd) : rvB gd nd (ov g xs) (ov gd ys) = (rv (ov g xs) (ov gd ys)).isSome := by
 rcases hb : ov gd ys with _ | b
 . unfold rvB
   rcases ov g xs with _ | a <;> simp [rv, o2E]
 . rcases ha : ov g xs with _ | a
   . unfold rvB; simp [rv, o2E]
   . have hs := ov_sign hb
     have hp := ov_parts hb
     have hg := fitE_gcd (ov_lt hx ha) (ov_lt hy hb)
     show (!gd && !(decide (nd = 0)) && (fitE (gcdZ a b) == 0) && oneB (some (fitZ (gcdZ a b)))) = (if 0 < b /\ gcdZ a b = 1 then some (Rat.divInt a b) else none).isSome
     rw [hg.1, hg.2]
     have h0 : nd = 0 ↔ b = 0 := by
      constructor
      . intro h
        have : ys = [] := List.eq_nil_of_length_eq_zero (by omega)
        rw [this] at hp
        have := hp.2.1
        simp [val] at this
        omega
      . intro h
        rw [h] at hp
        rcases ys with _ | ⟨y, ys⟩
        . simpa using hl.symm
        . have := val_pos hp.1 (by simp)
          rw [hp.2.1] at this
          simp at this
     have h1 := oneB_iff (some (gcdZ a b))
     by_cases hc : 0 < b /\ gcdZ a b = 1
     . rw [if_pos hc]
       have e1 : gd = false := by rw [<- hs]; simp; omega
       have e2 : decide (nd = 0) = false := by rw [decide_eq_false_iff_not, h0]; omega
       have e3 := h1.2 (by rw [hc.2])
       rw [e1, e2, e3]
       rfl
     . rw [if_neg hc]
       rcases Int.lt_trichotomy b 0 with h | h | h
       . have e1 : gd = true := by rw [<- hs]; simpa using h
         rw [e1]; rfl
       . have e2 : decide (nd = 0) = true := by rw [decide_eq_true_iff, h0]; exact h
         rw [e2]; simp
       . have e3 : oneB (some (gcdZ a b)) = false := by
          rcases he : oneB (some (gcdZ a b)) with _ | _
          . rfl
          . have := h1.1 he
            injection this with this
            exact absurd ⟨h, this⟩ hc
         rw [e3]; simp
theorem ratValid_r {q : RVal} {w : World} (h : q.In w) : Calls Tryz.prog 62 #[.agg #[.bool q.g, .slice q.A q.n q.c, .bool q.gd, .slice q.Ad q.nd q.cd]] w fun e w' => e = .returned (.bool (rv q.o q.od).isSome) /\ Below w.heap.size w w' := by
 have := ratValid_any q.g q.gd q.A q.Ad q.n q.c q.nd q.cd q.xs q.ys w h.1 h.2
 rwa [rvB_rv h.1.ok h.2.ok h.2.len] at this
end Go.Proofs.YtmncfbfepdbioaaGreatDoor
namespace Go.Proofs.YtmncfbfepdbioaaGreatDoor
open Go.RowKit
structure Kp (w w' : World) (p : Nat) (f : Int) : Prop where
 sl : ∀ A n c xs, Sl w w.heap.size A n c xs -> Sl w' w'.heap.size A n c xs
 blk : ∀ g t cs, g ≠ p -> Blk w g t cs -> Blk w' g t cs
 cl : Blk w' p 115 #[.int .i64 f]
 bel : ∀ B a, Below B a w -> B <= p -> B <= w.heap.size -> Below B a w'
 size : w.heap.size <= w'.heap.size
section
variable {w w' w'' : World} {p : Nat} {f f' : Int}
theorem Kp.trans (h : Kp w w' p f) (k : Kp w' w'' p f') : Kp w w'' p f' :=
 ⟨fun A n c xs s => k.sl A n c xs (h.sl A n c xs s), fun g t cs hg b => k.blk g t cs hg (h.blk g t cs hg b), k.cl, fun B a b h1 h2 => k.bel B a (h.bel B a b h1 h2) h1 (Nat.le_trans h2 h.size), Nat.le_trans h.size k.size⟩
theorem Kp.below (hb : Below w.heap.size w w') (hp : Blk w p 115 #[.int .i64 f]) : Kp w w' p f :=
 ⟨fun _ _ _ _ s => s.on hb, fun _ _ _ _ b => Blk.below b hb (Blk.lt b), Blk.below hp hb (Blk.lt hp), fun _ _ b _ h2 => below_chain b h2 hb, hb.size⟩
theorem Kp.set (hp : Blk w p 115 #[.int .i64 f]) : Kp w (w.setCell ⟨p, 0, none⟩ (.int .i64 f')) p f' := by
 have hs : (w.setCell ⟨p, 0, none⟩ (.int .i64 f')).heap.size = w.heap.size := by simp [World.setCell]
 have hc : w.cell? ⟨p, 0, none⟩ = some (.int .i64 f) := by rw [Blk.cell hp 0]; rfl
 refine ⟨fun A n c xs s => ?_, fun g t cs hg b => Blk.far b (p := ⟨p, 0, none⟩) hg _, ?_, fun B a b h1 _ => b.setCell h1 _, by rw [hs]; exact Nat.le_refl _⟩
 . rw [hs]; exact s.other hc (fun x e => by cases e) _
 . have := Blk.set_ hp 0 (.int .i64 f')
   exact this
theorem Kp.alloc (h : Kp w w' p f) (o : Obj) : Kp w (w'.alloc o) p f := h.trans (Kp.below (below_new _ _) h.cl)
theorem Kp.ret {r : Nat} {g : Bool} {A : Option Addr} {n c : Nat} (h : Kp w w' p f) (hr : Bx w' r g A n c) (hs : w.heap.size <= r) (hp : p < w.heap.size) (b : Bool) (v : Value) : Kp w ((w'.setCell ⟨r, 0, none⟩ (.bool b)).setCell ⟨r, 1, none⟩ v) p f := by
 refine ⟨fun A n c xs s => (h.sl A n c xs s).ret hr _ _, fun g t cs hg k => ?_, ?_, fun B a k h1 h2 => below_ret (h.bel B a k h1 h2) (by omega) _ _, by have := h.size; simpa [World.setCell] using this⟩
 . have hlt := Blk.lt k
   have hne : g ≠ r := by omega
   exact Blk.far (Blk.far (h.blk g t cs hg k) (p := ⟨r, 0, none⟩) hne _) (p := ⟨r, 1, none⟩) hne _
 . have hne : p ≠ r := by omega
   exact Blk.far (Blk.far h.cl (p := ⟨r, 0, none⟩) hne _) (p := ⟨r, 1, none⟩) hne _
theorem Kp.rb {r : Nat} {q : RVal} (h : Kp w w' p f) (hr : Rb w r q) (hne : r ≠ p) : Rb w' r q := ⟨h.blk _ _ _ hne hr.bx, h.sl _ _ _ _ hr.sl.1, h.sl _ _ _ _ hr.sl.2⟩
theorem Kp.ba {r : Nat} {neg : Bool} {A : Option Addr} {n c : Nat} {xs : List Nat} (h : Kp w w' p f) (hr : Ba w r neg A n c xs) (hne : r ≠ p) : Ba w' r neg A n c xs := ⟨h.blk _ _ _ hne hr.bx, h.sl _ _ _ _ hr.sl⟩
end
def Kf (f e f' : Int) : Prop := f = 0 /\ f' = e \/ f ≠ 0 /\ f' = f
def RetM (z f : Int) (p : Nat) (w : World) (e : Ending) (w' : World) : Prop := ∃ neg A n c xs, e = .returned (.agg #[.bool neg, .slice A n c]) /\ Sl w' w'.heap.size A n c xs /\ ov neg xs = some z /\ Kp w w' p f
theorem keep_first (neg : Bool) (A : Option Addr) (n c p : Nat) (xs : List Nat) (er z : Int) (w : World) (h : Sl w w.heap.size A n c xs) (hp : Blk w p 115 #[.int .i64 0]) (hz : ov neg xs = some z) :
 Calls Tryz.prog 134 #[.pointer (some ⟨p, 0, none⟩), .agg #[.bool neg, .slice A n c], .int .i64 er] w (RetM z er p w) := by
 have HZ := Lib.hid hz
 clear hz
 have b1 := Blk.alloc (Blk.alloc hp (.cells #[.bool neg, .slice A n c] 25)) (.cells #[.bool false, .slice none 0 0] 25)
 have k0 : ((w.alloc (.cells #[.bool neg, .slice A n c] 25)).alloc (.cells #[.bool false, .slice none 0 0] 25)).cell? ⟨p, 0, none⟩ = some (.int .i64 0) := by rw [Blk.cell b1 0]; rfl
 have k1 := Blk.frozen b1 0
 have hlt := Blk.lt hp
 have HK := Lib.hid (((Kp.set (f' := er) hp).alloc (.cells #[.bool neg, .slice A n c] 25)).alloc (.cells #[.bool neg, .slice A n c] 25))
 have HP := Lib.hid hp
 have B1 := Lib.hid b1
 have HS := Lib.hid h
 clear hp b1 h
 go_enter Tryz.func134, Tryz.ntmps134
 go_wp2
 refine bodyPost_ret (v := .agg #[.bool neg, .slice A n c]) (by simp [results, Tryz.results134, go_sem]) rfl ?_
 exact ⟨neg, A, n, c, xs, rfl, (HK.out).sl _ _ _ _ HS.out, HZ.out, HK.out⟩
theorem keep_later (neg : Bool) (A : Option Addr) (n c p : Nat) (xs : List Nat) (er z : Int) (w : World) (h : Sl w w.heap.size A n c xs) (f : Int) (hp : Blk w p 115 #[.int .i64 f]) (hf : f ≠ 0) (hz : ov neg xs = some z) :
 Calls Tryz.prog 134 #[.pointer (some ⟨p, 0, none⟩), .agg #[.bool neg, .slice A n c], .int .i64 er] w (RetM z f p w) := by
 have HZ := Lib.hid hz
 clear hz
 have b1 := Blk.alloc (Blk.alloc hp (.cells #[.bool neg, .slice A n c] 25)) (.cells #[.bool false, .slice none 0 0] 25)
 have k0 : ((w.alloc (.cells #[.bool neg, .slice A n c] 25)).alloc (.cells #[.bool false, .slice none 0 0] 25)).cell? ⟨p, 0, none⟩ = some (.int .i64 f) := by rw [Blk.cell b1 0]; rfl
 have k1 := Blk.frozen b1 0
 have hlt := Blk.lt hp
 have hf0 : (f == 0) = false := by rw [beq_eq_false_iff_ne]; exact hf
 have hf1 : (f != 0) = true := by simpa [bne] using hf0
 have HK := Lib.hid ((((Kp.below (Below.refl _ _) hp)).alloc (.cells #[.bool neg, .slice A n c] 25)).alloc (.cells #[.bool neg, .slice A n c] 25))
 have HP := Lib.hid hp
 have B1 := Lib.hid b1
 have HS := Lib.hid h
 clear hp b1 h hf
 go_enter Tryz.func134, Tryz.ntmps134
 go_wp2
 refine bodyPost_ret (v := .agg #[.bool neg, .slice A n c]) (by simp [results, Tryz.results134, go_sem]) rfl ?_
 exact ⟨neg, A, n, c, xs, rfl, (HK.out).sl _ _ _ _ HS.out, HZ.out, HK.out⟩
theorem keep_any (neg : Bool) (A : Option Addr) (n c p : Nat) (xs : List Nat) (er z f f' : Int) (w : World) (h : Sl w w.heap.size A n c xs) (hp : Blk w p 115 #[.int .i64 f]) (hz : ov neg xs = some z) (hf : Kf f er f') :
 Calls Tryz.prog 134 #[.pointer (some ⟨p, 0, none⟩), .agg #[.bool neg, .slice A n c], .int .i64 er] w (RetM z f' p w) := by
 rcases hf with ⟨rfl, rfl⟩ | ⟨h0, rfl⟩
 . exact keep_first neg A n c p xs f' z w h hp hz
 . exact keep_later neg A n c p xs er z w h f' hp h0 hz
theorem cadd_any (neg neg' : Bool) (A A' : Option Addr) (n c n' c' p : Nat) (xs ys : List Nat) (a b f f' : Int) (w : World) (h : Sl w w.heap.size A n c xs) (h' : Sl w w.heap.size A' n' c' ys) (hx : ov neg xs = some a) (hy : ov neg' ys = some b)
 (hp : Blk w p 115 #[.int .i64 f]) (hf : Kf f (fitE (a + b)) f') :
 Calls Tryz.prog 87 #[.pointer (some ⟨p, 0, none⟩), .agg #[.bool neg, .slice A n c], .agg #[.bool neg', .slice A' n' c']] w (RetM (fitZ (a + b)) f' p w) := by
 have C0 : ∀ w : World, Sl w w.heap.size A n c xs -> Sl w w.heap.size A' n' c' ys -> Calls Tryz.prog 45 #[.agg #[.bool neg, .slice A n c], .agg #[.bool neg', .slice A' n' c']] w (RetIE (fitZ (a + b)) (fitE (a + b)) w) := by
  intro w h h'
  have := add_ov (neg := neg) (neg' := neg') h h'
  rw [hx, hy] at this
  exact this
 have hz9 := fitZ_lt (a + b)
 generalize fitZ (a + b) = z at *
 generalize fitE (a + b) = er at *
 have HC := Lib.hid C0
 have HF := Lib.hid hf
 have HP := Lib.hid hp
 have HS := Lib.hid h
 have HS' := Lib.hid h'
 have HZ := Lib.hid hz9
 have hlt := Blk.lt hp
 clear C0 hf hp h h' hx hy hz9
 go_enter Tryz.func87, Tryz.ntmps87
 go_wp2_with fail
 generalize hW : World.alloc (World.alloc (World.alloc w _) _) _ = V
 have hb : Below w.heap.size w V := by rw [<- hW]; exact (((Below.refl _ _).alloc (Nat.le_refl _) _).alloc (by simp) _).alloc (by simp; omega) _
 have rb : Bx V (w.heap.size + 1 + 1) false none 0 0 := by
  rw [<- hW]
  have := Bx.new ((w.alloc (.cells #[.bool neg, .slice A n c] 25)).alloc (.cells #[.bool neg', .slice A' n' c'] 25)) false none 0 0
  simpa using this
 have HB := Lib.hid hb
 clear hW hb
 refine (HC.out V (HS.out.on HB.out) (HS'.out.on HB.out)).mono ?_
 rintro e w1 ⟨A1, n1, c1, xs1, rfl, hs1, hx1, hv1, hb1⟩
 have HO := Lib.hid (ov_res hs1.ok hx1 hv1 HZ.out)
 have K1 := Lib.hid ((Kp.below HB.out HP.out).trans (Kp.below hb1 (Blk.below HP.out HB.out (Blk.lt HP.out))))
 have rb1 := rb.below hb1 rb.lt
 have lt1 := rb1.lt
 have HS1 := Lib.hid hs1
 clear hb1 hv1 hx1 rb hs1
 go_wp2_with fail
 refine (keep_any _ _ _ _ p _ _ _ f f' w1 HS1.out K1.out.cl HO.out HF.out).mono ?_
 rintro e w2 ⟨neg2, A2, n2, c2, xs2, rfl, hs2, ho2, hk2⟩
 have hne : w.heap.size + 1 + 1 ≠ p := by omega
 have rb2 : Bx w2 (w.heap.size + 1 + 1) false none 0 0 := hk2.blk _ _ _ hne rb1
 have K2 := Lib.hid (K1.out.trans hk2)
 have HR := Lib.hid (And.intro hs2 ho2)
 have RB := Lib.hid rb2
 have j0 := rb2.c0
 have j1 := rb2.c1
 have j2 := rb2.f 0
 have j3 := rb2.f 1
 clear hk2 hs2 ho2 rb2 rb1 lt1 hne
 go_wp2
 refine bodyPost_ret (v := .agg #[.bool neg2, .slice A2 n2 c2]) (by simp [results, Tryz.results87, go_sem, j0, j1]) rfl ?_
 exact ⟨neg2, A2, n2, c2, xs2, rfl, HR.out.1.ret RB.out _ _, HR.out.2, K2.out.ret RB.out (by omega) hlt _ _⟩
theorem csub_any (neg neg' : Bool) (A A' : Option Addr) (n c n' c' p : Nat) (xs ys : List Nat) (a b f f' : Int) (w : World) (h : Sl w w.heap.size A n c xs) (h' : Sl w w.heap.size A' n' c' ys) (hx : ov neg xs = some a) (hy : ov neg' ys = some b)
 (hp : Blk w p 115 #[.int .i64 f]) (hf : Kf f (fitE (a - b)) f') :
 Calls Tryz.prog 166 #[.pointer (some ⟨p, 0, none⟩), .agg #[.bool neg, .slice A n c], .agg #[.bool neg', .slice A' n' c']] w (RetM (fitZ (a - b)) f' p w) := by
 have C0 : ∀ w : World, Sl w w.heap.size A n c xs -> Sl w w.heap.size A' n' c' ys -> Calls Tryz.prog 192 #[.agg #[.bool neg, .slice A n c], .agg #[.bool neg', .slice A' n' c']] w (RetIE (fitZ (a - b)) (fitE (a - b)) w) := by
  intro w h h'
  have := sub_ov (neg := neg) (neg' := neg') h h'
  rw [hx, hy] at this
  exact this
 have hz9 := fitZ_lt (a - b)
 generalize fitZ (a - b) = z at *
 generalize fitE (a - b) = er at *
 have HC := Lib.hid C0
 have HF := Lib.hid hf
 have HP := Lib.hid hp
 have HS := Lib.hid h
 have HS' := Lib.hid h'
 have HZ := Lib.hid hz9
 have hlt := Blk.lt hp
 clear C0 hf hp h h' hx hy hz9
 go_enter Tryz.func166, Tryz.ntmps166
 go_wp2_with fail
 generalize hW : World.alloc (World.alloc (World.alloc w _) _) _ = V
 have hb : Below w.heap.size w V := by rw [<- hW]; exact (((Below.refl _ _).alloc (Nat.le_refl _) _).alloc (by simp) _).alloc (by simp; omega) _
 have rb : Bx V (w.heap.size + 1 + 1) false none 0 0 := by
  rw [<- hW]
  have := Bx.new ((w.alloc (.cells #[.bool neg, .slice A n c] 25)).alloc (.cells #[.bool neg', .slice A' n' c'] 25)) false none 0 0
  simpa using this
 have HB := Lib.hid hb
 clear hW hb
 refine (HC.out V (HS.out.on HB.out) (HS'.out.on HB.out)).mono ?_
 rintro e w1 ⟨A1, n1, c1, xs1, rfl, hs1, hx1, hv1, hb1⟩
 have HO := Lib.hid (ov_res hs1.ok hx1 hv1 HZ.out)
 have K1 := Lib.hid ((Kp.below HB.out HP.out).trans (Kp.below hb1 (Blk.below HP.out HB.out (Blk.lt HP.out))))
 have rb1 := rb.below hb1 rb.lt
 have lt1 := rb1.lt
 have HS1 := Lib.hid hs1
 clear hb1 hv1 hx1 rb hs1
 go_wp2_with fail
 refine (keep_any _ _ _ _ p _ _ _ f f' w1 HS1.out K1.out.cl HO.out HF.out).mono ?_
 rintro e w2 ⟨neg2, A2, n2, c2, xs2, rfl, hs2, ho2, hk2⟩
 have hne : w.heap.size + 1 + 1 ≠ p := by omega
 have rb2 : Bx w2 (w.heap.size + 1 + 1) false none 0 0 := hk2.blk _ _ _ hne rb1
 have K2 := Lib.hid (K1.out.trans hk2)
 have HR := Lib.hid (And.intro hs2 ho2)
 have RB := Lib.hid rb2
 have j0 := rb2.c0
 have j1 := rb2.c1
 have j2 := rb2.f 0
 have j3 := rb2.f 1
 clear hk2 hs2 ho2 rb2 rb1 lt1 hne
 go_wp2
 refine bodyPost_ret (v := .agg #[.bool neg2, .slice A2 n2 c2]) (by simp [results, Tryz.results166, go_sem, j0, j1]) rfl ?_
 exact ⟨neg2, A2, n2, c2, xs2, rfl, HR.out.1.ret RB.out _ _, HR.out.2, K2.out.ret RB.out (by omega) hlt _ _⟩
theorem cmul_any (neg neg' : Bool) (A A' : Option Addr) (n c n' c' p : Nat) (xs ys : List Nat) (a b f f' : Int) (w : World) (h : Sl w w.heap.size A n c xs) (h' : Sl w w.heap.size A' n' c' ys) (hx : ov neg xs = some a) (hy : ov neg' ys = some b)
 (hp : Blk w p 115 #[.int .i64 f]) (hf : Kf f (fitE (a * b)) f') :
 Calls Tryz.prog 88 #[.pointer (some ⟨p, 0, none⟩), .agg #[.bool neg, .slice A n c], .agg #[.bool neg', .slice A' n' c']] w (RetM (fitZ (a * b)) f' p w) := by
 have C0 : ∀ w : World, Sl w w.heap.size A n c xs -> Sl w w.heap.size A' n' c' ys -> Calls Tryz.prog 44 #[.agg #[.bool neg, .slice A n c], .agg #[.bool neg', .slice A' n' c']] w (RetIE (fitZ (a * b)) (fitE (a * b)) w) := by
  intro w h h'
  have := mul_ov (neg := neg) (neg' := neg') h h'
  rw [hx, hy] at this
  exact this
 have hz9 := fitZ_lt (a * b)
 generalize fitZ (a * b) = z at *
 generalize fitE (a * b) = er at *
 have HC := Lib.hid C0
 have HF := Lib.hid hf
 have HP := Lib.hid hp
 have HS := Lib.hid h
 have HS' := Lib.hid h'
 have HZ := Lib.hid hz9
 have hlt := Blk.lt hp
 clear C0 hf hp h h' hx hy hz9
 go_enter Tryz.func88, Tryz.ntmps88
 go_wp2_with fail
 generalize hW : World.alloc (World.alloc (World.alloc w _) _) _ = V
 have hb : Below w.heap.size w V := by rw [<- hW]; exact (((Below.refl _ _).alloc (Nat.le_refl _) _).alloc (by simp) _).alloc (by simp; omega) _
 have rb : Bx V (w.heap.size + 1 + 1) false none 0 0 := by
  rw [<- hW]
  have := Bx.new ((w.alloc (.cells #[.bool neg, .slice A n c] 25)).alloc (.cells #[.bool neg', .slice A' n' c'] 25)) false none 0 0
  simpa using this
 have HB := Lib.hid hb
 clear hW hb
 refine (HC.out V (HS.out.on HB.out) (HS'.out.on HB.out)).mono ?_
 rintro e w1 ⟨A1, n1, c1, xs1, rfl, hs1, hx1, hv1, hb1⟩
 have HO := Lib.hid (ov_res hs1.ok hx1 hv1 HZ.out)
 have K1 := Lib.hid ((Kp.below HB.out HP.out).trans (Kp.below hb1 (Blk.below HP.out HB.out (Blk.lt HP.out))))
 have rb1 := rb.below hb1 rb.lt
 have lt1 := rb1.lt
 have HS1 := Lib.hid hs1
 clear hb1 hv1 hx1 rb hs1
 go_wp2_with fail
 refine (keep_any _ _ _ _ p _ _ _ f f' w1 HS1.out K1.out.cl HO.out HF.out).mono ?_
 rintro e w2 ⟨neg2, A2, n2, c2, xs2, rfl, hs2, ho2, hk2⟩
 have hne : w.heap.size + 1 + 1 ≠ p := by omega
 have rb2 : Bx w2 (w.heap.size + 1 + 1) false none 0 0 := hk2.blk _ _ _ hne rb1
 have K2 := Lib.hid (K1.out.trans hk2)
 have HR := Lib.hid (And.intro hs2 ho2)
 have RB := Lib.hid rb2
 have j0 := rb2.c0
 have j1 := rb2.c1
 have j2 := rb2.f 0
 have j3 := rb2.f 1
 clear hk2 hs2 ho2 rb2 rb1 lt1 hne
 go_wp2
 refine bodyPost_ret (v := .agg #[.bool neg2, .slice A2 n2 c2]) (by simp [results, Tryz.results88, go_sem, j0, j1]) rfl ?_
 exact ⟨neg2, A2, n2, c2, xs2, rfl, HR.out.1.ret RB.out _ _, HR.out.2, K2.out.ret RB.out (by omega) hlt _ _⟩
end Go.Proofs.YtmncfbfepdbioaaGreatDoor
namespace Go.Proofs.YtmncfbfepdbioaaGreatDoor
open Go.RowKit
theorem allValid_one (q : RVal) (g : Nat) (o : Bool) (w : World) (h : q.In w) (hB : Blk w g 27 #[.bool q.g, .slice q.A q.n q.c, .bool q.gd, .slice q.Ad q.nd q.cd]) (e : (rv q.o q.od).isSome = o) :
 Calls Tryz.prog 133 #[.slice (some ⟨g, 0, none⟩) 1 1] w fun e w' => e = .returned (.bool o) /\ Below w.heap.size w w' := by
 have k0 : w.cell? ⟨g, 0, none⟩ = some (.bool q.g) := by rw [Blk.cell hB 0]; rfl
 have k1 : w.cell? ⟨g, 1, none⟩ = some (.slice q.A q.n q.c) := by rw [Blk.cell hB 1]; rfl
 have k2 : w.cell? ⟨g, 2, none⟩ = some (.bool q.gd) := by rw [Blk.cell hB 2]; rfl
 have k3 : w.cell? ⟨g, 3, none⟩ = some (.slice q.Ad q.nd q.cd) := by rw [Blk.cell hB 3]; rfl
 have HS := Lib.hid h
 have HE := Lib.hid e
 clear h hB e
 rcases o with _ | _
 all_goals
  go_enter Tryz.func133, Tryz.ntmps133
  go_wp2
  refine wp_loop_rounds 2 ?_
  rw [rounds_succ]
  go_wp2_with fail
  have C := ratValid_r (HS.out.on (below_new w (.cells #[.bool q.g, .slice q.A q.n q.c, .bool q.gd, .slice q.Ad q.nd q.cd] 27)))
  rw [HE.out] at C
  refine C.mono ?_
  clear C
  rintro e w1 ⟨rfl, hb1⟩
  have HB1 := Lib.hid (below_chain (below_new w (.cells #[.bool q.g, .slice q.A q.n q.c, .bool q.gd, .slice q.Ad q.nd q.cd] 27)) (by simp) hb1)
  clear hb1
  go_wp2
  try (rw [rounds_succ]; go_wp2)
  go_ret
  exact ⟨rfl, HB1.out⟩
theorem allValid_two (q q' : RVal) (g : Nat) (o o' : Bool) (w : World) (h : q.In w) (h' : q'.In w) (hB : Blk w g 27 #[.bool q.g, .slice q.A q.n q.c, .bool q.gd, .slice q.Ad q.nd q.cd, .bool q'.g, .slice q'.A q'.n q'.c, .bool q'.gd, .slice q'.Ad q'.nd q'.cd])
 (e : (rv q.o q.od).isSome = o) (e' : (rv q'.o q'.od).isSome = o') :
 Calls Tryz.prog 133 #[.slice (some ⟨g, 0, none⟩) 2 2] w fun e w' => e = .returned (.bool (o && o')) /\ Below w.heap.size w w' := by
 have k0 : w.cell? ⟨g, 0, none⟩ = some (.bool q.g) := by rw [Blk.cell hB 0]; rfl
 have k1 : w.cell? ⟨g, 1, none⟩ = some (.slice q.A q.n q.c) := by rw [Blk.cell hB 1]; rfl
 have k2 : w.cell? ⟨g, 2, none⟩ = some (.bool q.gd) := by rw [Blk.cell hB 2]; rfl
 have k3 : w.cell? ⟨g, 3, none⟩ = some (.slice q.Ad q.nd q.cd) := by rw [Blk.cell hB 3]; rfl
 have HBb := Lib.hid hB
 have HS := Lib.hid h
 have HS' := Lib.hid h'
 have HE := Lib.hid e
 have HE' := Lib.hid e'
 clear h h' hB e e'
 rcases o with _ | _
 . show Calls Tryz.prog 133 #[.slice (some ⟨g, 0, none⟩) 2 2] w fun e w' => e = .returned (.bool false) /\ Below w.heap.size w w'
   go_enter Tryz.func133, Tryz.ntmps133
   go_wp2
   refine wp_loop_rounds 3 ?_
   rw [rounds_succ]
   go_wp2_with fail
   have C := ratValid_r (HS.out.on (below_new w (.cells #[.bool q.g, .slice q.A q.n q.c, .bool q.gd, .slice q.Ad q.nd q.cd] 27)))
   rw [HE.out] at C
   refine C.mono ?_
   clear C
   rintro e w1 ⟨rfl, hb1⟩
   have HB1 := Lib.hid (below_chain (below_new w (.cells #[.bool q.g, .slice q.A q.n q.c, .bool q.gd, .slice q.Ad q.nd q.cd] 27)) (by simp) hb1)
   clear hb1
   go_wp2
   go_ret
   exact ⟨rfl, HB1.out⟩
 . rcases o' with _ | _
   all_goals
    go_enter Tryz.func133, Tryz.ntmps133
    go_wp2
    refine wp_loop_rounds 3 ?_
    rw [rounds_succ]
    go_wp2_with fail
    have C := ratValid_r (HS.out.on (below_new w (.cells #[.bool q.g, .slice q.A q.n q.c, .bool q.gd, .slice q.Ad q.nd q.cd] 27)))
    rw [HE.out] at C
    refine C.mono ?_
    clear C
    rintro e w1 ⟨rfl, hb1⟩
    have hb := below_chain (below_new w (.cells #[.bool q.g, .slice q.A q.n q.c, .bool q.gd, .slice q.Ad q.nd q.cd] 27)) (by simp) hb1
    have HB1 := Lib.hid hb
    have hB1 := Blk.below HBb.out hb (Blk.lt HBb.out)
    have j0 : w1.cell? ⟨g, 4, none⟩ = some (.bool q'.g) := by rw [Blk.cell hB1 4]; rfl
    have j1 : w1.cell? ⟨g, 5, none⟩ = some (.slice q'.A q'.n q'.c) := by rw [Blk.cell hB1 5]; rfl
    have j2 : w1.cell? ⟨g, 6, none⟩ = some (.bool q'.gd) := by rw [Blk.cell hB1 6]; rfl
    have j3 : w1.cell? ⟨g, 7, none⟩ = some (.slice q'.Ad q'.nd q'.cd) := by rw [Blk.cell hB1 7]; rfl
    clear hb1 hb hB1 k0 k1 k2 k3
    go_wp2
    rw [rounds_succ]
    go_wp2_with fail
    have C := ratValid_r ((HS'.out.on HB1.out).on (below_new w1 (.cells #[.bool q'.g, .slice q'.A q'.n q'.c, .bool q'.gd, .slice q'.Ad q'.nd q'.cd] 27)))
    rw [HE'.out] at C
    refine C.mono ?_
    clear C
    rintro e w2 ⟨rfl, hb2⟩
    have HB2 := Lib.hid (below_chain HB1.out HB1.out.size (below_chain (below_new w1 (.cells #[.bool q'.g, .slice q'.A q'.n q'.c, .bool q'.gd, .slice q'.Ad q'.nd q'.cd] 27)) (by simp) hb2))
    clear hb2
    go_wp2
    try (rw [rounds_succ]; go_wp2)
    go_ret
    exact ⟨rfl, HB2.out⟩
end Go.Proofs.YtmncfbfepdbioaaGreatDoor
namespace Go.Proofs.YtmncfbfepdbioaaGreatDoor
open Go.RowKit
def mkN : Option Int -> Option Int -> Int
 | some a, some b => if b = 0 then 0 else (Rat.divInt a b).num
 | _, _ => 0
def mkD : Option Int -> Option Int -> Int
 | some a, some b => if b = 0 then 0 else ((Rat.divInt a b).den : Int)
 | _, _ => 0
def mkE : Option Int -> Option Int -> Int
 | some _, some b => if b = 0 then 4 else 0
 | _, _ => 1
def RVal.nil : RVal := ⟨false, none, 0, 0, [], false, none, 0, 0, []⟩
theorem RVal.nil_in (w : World) : RVal.nil.In w := ⟨Sl.nil _ _, Sl.nil _ _⟩
theorem mk_boxes (neg neg' : Bool) (A A' : Option Addr) (n c n' c' : Nat) (xs ys : List Nat) (w W : World) (h : Sl w w.heap.size A n c xs) (h' : Sl w w.heap.size A' n' c' ys)
 (hW : ((w.alloc (.cells #[.bool neg, .slice A n c] 25)).alloc (.cells #[.bool neg', .slice A' n' c'] 25)).alloc (.cells #[.bool false, .slice none 0 0, .bool false, .slice none 0 0] 27) = W) :
 Below w.heap.size w W /\ Ba W w.heap.size neg A n c xs /\ Ba W (w.heap.size + 1) neg' A' n' c' ys /\ Rb W (w.heap.size + 1 + 1) RVal.nil := by
 obtain ⟨hb, h1, h2⟩ := two_boxes neg neg' A A' n c n' c' xs ys w _ h h' rfl
 have hn := below_new ((w.alloc (.cells #[.bool neg, .slice A n c] 25)).alloc (.cells #[.bool neg', .slice A' n' c'] 25)) (.cells #[.bool false, .slice none 0 0, .bool false, .slice none 0 0] 27)
 rw [hW] at hn
 refine ⟨below_chain hb hb.size hn, h1.on hn, h2.on hn, ?_⟩
 have := Rb.new (RVal.nil_in ((w.alloc (.cells #[.bool neg, .slice A n c] 25)).alloc (.cells #[.bool neg', .slice A' n' c'] 25)))
 rw [<- hW]
 simpa [RVal.nil] using this
theorem Rb.f4 {w : World} {r : Nat} {q : RVal} (h : Rb w r q) : w.frozen? ⟨r, 0, none⟩ = false /\ w.frozen? ⟨r, 1, none⟩ = false /\ w.frozen? ⟨r, 2, none⟩ = false /\ w.frozen? ⟨r, 3, none⟩ = false := ⟨h.f 0, h.f 1, h.f 2, h.f 3⟩
def put4 (w : World) (r : Nat) (a : Bool) (b : Value) (c : Bool) (d : Value) : World := (((w.setCell ⟨r, 0, none⟩ (.bool a)).setCell ⟨r, 1, none⟩ b).setCell ⟨r, 2, none⟩ (.bool c)).setCell ⟨r, 3, none⟩ d
theorem Sl.put4 {w : World} {r n c : Nat} {q : RVal} {A : Option Addr} {xs : List Nat} (h : Sl w w.heap.size A n c xs) (hr : Blk w r 27 #[.bool q.g, .slice q.A q.n q.c, .bool q.gd, .slice q.Ad q.nd q.cd]) (a : Bool) (b : Value) (d : Bool) (e : Value) : Sl (put4 w r a b d e) (put4 w r a b d e).heap.size A n c xs := by
 have b1 := Blk.set_ hr 0 (.bool a)
 have b2 := Blk.set_ b1 1 b
 have b3 := Blk.set_ b2 2 (.bool d)
 have h1 := h.other (p := ⟨r, 0, none⟩) (by rw [Blk.cell hr 0]; rfl) (fun x e => by cases e) (.bool a)
 have h2 := h1.other (p := ⟨r, 1, none⟩) (u0 := .slice q.A q.n q.c) (by rw [Blk.cell b1 1]; rfl) (fun x e => by cases e) b
 have h3 := h2.other (p := ⟨r, 2, none⟩) (u0 := .bool q.gd) (by rw [Blk.cell b2 2]; rfl) (fun x e => by cases e) (.bool d)
 have h4 := h3.other (p := ⟨r, 3, none⟩) (u0 := .slice q.Ad q.nd q.cd) (by rw [Blk.cell b3 3]; rfl) (fun x e => by cases e) e
 exact h4.more (by simp [Go.Proofs.YtmncfbfepdbioaaGreatDoor.put4, World.setCell])
theorem below_put4 {B : Nat} {a w : World} (h : Below B a w) {r : Nat} (hr : B <= r) (x : Bool) (b : Value) (d : Bool) (e : Value) : Below B a (put4 w r x b d e) := (((h.setCell hr _).setCell hr _).setCell hr _).setCell hr _
theorem put4_size (w : World) (r : Nat) (a : Bool) (b : Value) (c : Bool) (d : Value) : (put4 w r a b c d).heap.size = w.heap.size := by simp [put4, World.setCell]
theorem Rb.put {w : World} {r : Nat} {q q' : RVal} (h : Rb w r q) (hq : q'.In w) : Rb (put4 w r q'.g (.slice q'.A q'.n q'.c) q'.gd (.slice q'.Ad q'.nd q'.cd)) r q' := by
 refine ⟨?_, hq.1.put4 h.bx _ _ _ _, hq.2.put4 h.bx _ _ _ _⟩
 have := Blk.set_ (Blk.set_ (Blk.set_ (Blk.set_ h.bx 0 (.bool q'.g)) 1 (.slice q'.A q'.n q'.c)) 2 (.bool q'.gd)) 3 (.slice q'.Ad q'.nd q'.cd)
 exact this
theorem Rb.alloc {w : World} {r : Nat} {q : RVal} (h : Rb w r q) (o : Obj) : Rb (w.alloc o) r q := h.on (below_new _ _)
theorem Rb.aside {w : World} {r r' : Nat} {q : RVal} {neg : Bool} {A : Option Addr} {n c : Nat} {xs : List Nat} (h' : Rb w r' q) (h : Ba w r neg A n c xs) (hne : r' ≠ r) (b : Bool) (v : Value) :
 Rb ((w.setCell ⟨r, 0, none⟩ (.bool b)).setCell ⟨r, 1, none⟩ v) r' q :=
 ⟨Blk.far (Blk.far h'.bx (p := ⟨r, 0, none⟩) hne _) (p := ⟨r, 1, none⟩) hne _, h'.sl.1.ret h.bx b v, h'.sl.2.ret h.bx b v⟩
theorem fq_exact {a c : Int} (hc : c ≠ 0) (h : c ∣ a) : fq a c = a / c /\ fr a c = 0 := by
 have s := fq_spec a c hc
 exact ex_q s.1 s.2.1 h
theorem make_div {a b : Int} (hb : b ≠ 0) : dvQ (some a) (some (b.sign * gcdZ a b)) = (Rat.divInt a b).num /\ dvQ (some b) (some (b.sign * gcdZ a b)) = ((Rat.divInt a b).den : Int) := by
 have m := mk_num a b hb
 rw [dvQ_some, dvQ_some, if_neg m.2.2.2.2, if_neg m.2.2.2.2, (fq_exact m.2.2.2.2 m.1).1, (fq_exact m.2.2.2.2 m.2.1).1]
 exact ⟨m.2.2.1, m.2.2.2.1⟩
theorem common_ov {neg' : Bool} {xs1 : List Nat} {a b : Int} (hb : b ≠ 0) (hs : decide (b < 0) = neg') (hx : Ok xs1) (nx : Nz xs1) (e : val xs1 = (gcdZ a b).natAbs) (hz : (gcdZ a b).natAbs < BIG) : ov neg' xs1 = some (b.sign * gcdZ a b) := by
 have m := mk_num a b hb
 have hg : 0 <= gcdZ a b := Int.natCast_nonneg _
 have e1 : decide (b.sign * gcdZ a b < 0) = neg' := by
  rw [<- hs]
  have h0 := m.2.2.2.2
  rcases Int.lt_or_gt_of_ne hb with h | h
  . rw [Int.sign_eq_neg_one_of_neg h] at h0 ⊢
    simp only [decide_eq_decide]
    omega
  . rw [Int.sign_eq_one_of_pos h] at h0 ⊢
    simp only [decide_eq_decide]
    omega
 have e2 : (b.sign * gcdZ a b).natAbs = (gcdZ a b).natAbs := by rw [Int.natAbs_mul, Int.natAbs_sign_of_ne_zero hb, Nat.one_mul]
 rw [<- e1]
 exact ov_res hx nx (by rw [e2]; exact e) (by rw [e2]; exact hz)
theorem RetR.of {z zd er : Int} {w U : World} {r : Nat} {q : RVal} (h : Rb U r q) (hz : q.o = some z) (hd : q.od = some zd) (hb : Below w.heap.size w U) : RetR z zd er w (.returned (.tuple #[.agg #[.bool q.g, .slice q.A q.n q.c, .bool q.gd, .slice q.Ad q.nd q.cd], .int .i64 er])) U := ⟨q, rfl, h.sl, hz, hd, hb⟩
theorem make_bad (neg neg' : Bool) (A A' : Option Addr) (n c n' c' : Nat) (xs ys : List Nat) (w : World) (h : Sl w w.heap.size A n c xs) (h' : Sl w w.heap.size A' n' c' ys) (z er : Int) (he : er ≠ 0)
 (HG : Hid (∀ w : World, Sl w w.heap.size A n c xs -> Sl w w.heap.size A' n' c' ys -> Calls Tryz.prog 100 #[.agg #[.bool neg, .slice A n c], .agg #[.bool neg', .slice A' n' c']] w (RetIE z er w))) :
 Calls Tryz.prog 46 #[.agg #[.bool neg, .slice A n c], .agg #[.bool neg', .slice A' n' c']] w (RetR 0 0 er w) := by
 have e1 : (er != 0) = true := by simpa using he
 clear he
 have HS := Lib.hid (And.intro h h')
 clear h h'
 go_enter Tryz.func46, Tryz.ntmps46
 go_wp2_with fail
 generalize hW : World.alloc (World.alloc (World.alloc w _) _) _ = V
 obtain ⟨hb, ba, bb, rb⟩ := mk_boxes neg neg' A A' n c n' c' xs ys w V HS.out.1 HS.out.2 hW
 have HB := Lib.hid hb
 clear hW hb
 refine (HG.out V ba.sl bb.sl).mono ?_
 rintro e w1 ⟨A1, n1, c1, xs1, rfl, hs1, hx1, hv1, hb1⟩
 have HB1 := Lib.hid (below_chain HB.out HB.out.size hb1)
 have BA := Lib.hid (ba.on hb1)
 have BB := Lib.hid (bb.on hb1)
 have RB := Lib.hid (rb.on hb1)
 have HR := Lib.hid (And.intro hs1 (And.intro hx1 hv1))
 clear hb1 rb ba bb hs1 hx1 hv1
 have f0 := RB.out.f 0
 have f1 := RB.out.f 1
 have f2 := RB.out.f 2
 have f3 := RB.out.f 3
 have q0 := RB.out.c0
 have q1 := RB.out.c1
 have q2 := RB.out.c2
 have q3 := RB.out.c3
 simp only [RVal.nil] at q0 q1 q2 q3
 have lt1 := RB.out.lt
 go_wp2
 generalize hU : World.alloc (World.setCell (World.setCell (World.setCell (World.setCell w1 _ _) _ _) _ _) _ _) _ = U
 have RU : Rb U (w.heap.size + 1 + 1) RVal.nil := by rw [<- hU]; exact (Rb.put RB.out (RVal.nil_in w1)).alloc (.cells #[.bool (decide (z < 0)), .slice A1 n1 c1] 25)
 have HU : Below w.heap.size w U := by rw [<- hU]; exact (below_put4 HB1.out (show w.heap.size <= w.heap.size + 1 + 1 by omega) _ _ _ _).alloc (by have := HB1.out.size; rw [put4_size]; omega) _
 have j0 := RU.c0
 have j1 := RU.c1
 have j2 := RU.c2
 have j3 := RU.c3
 refine bodyPost_ret (v := .tuple #[.agg #[.bool RVal.nil.g, .slice RVal.nil.A RVal.nil.n RVal.nil.c, .bool RVal.nil.gd, .slice RVal.nil.Ad RVal.nil.nd RVal.nil.cd], .int .i64 er]) (by simp [results, Tryz.results46, go_sem, j0, j1, j2, j3]) rfl ?_
 exact RetR.of RU rfl rfl HU
theorem make_zero (neg neg' : Bool) (A A' : Option Addr) (n c n' c' : Nat) (xs ys : List Nat) (w : World) (h : Sl w w.heap.size A n c xs) (h' : Sl w w.heap.size A' n' c' ys) (z er : Int) (he : er = 0) (hn : n' = 0)
 (HG : Hid (∀ w : World, Sl w w.heap.size A n c xs -> Sl w w.heap.size A' n' c' ys -> Calls Tryz.prog 100 #[.agg #[.bool neg, .slice A n c], .agg #[.bool neg', .slice A' n' c']] w (RetIE z er w))) :
 Calls Tryz.prog 46 #[.agg #[.bool neg, .slice A n c], .agg #[.bool neg', .slice A' n' c']] w (RetR 0 0 4 w) := by
 subst he
 have hn0 : ((n' : Int) == 0) = true := by rw [hn]; rfl
 clear hn
 have HS := Lib.hid (And.intro h h')
 clear h h'
 go_enter Tryz.func46, Tryz.ntmps46
 go_wp2_with fail
 generalize hW : World.alloc (World.alloc (World.alloc w _) _) _ = V
 obtain ⟨hb, ba, bb, rb⟩ := mk_boxes neg neg' A A' n c n' c' xs ys w V HS.out.1 HS.out.2 hW
 have HB := Lib.hid hb
 clear hW hb
 refine (HG.out V ba.sl bb.sl).mono ?_
 rintro e w1 ⟨A1, n1, c1, xs1, rfl, hs1, hx1, hv1, hb1⟩
 have HB1 := Lib.hid (below_chain HB.out HB.out.size hb1)
 have BA := Lib.hid (ba.on hb1)
 have BB := Lib.hid (bb.on hb1)
 have RB := Lib.hid (rb.on hb1)
 have HR := Lib.hid (And.intro hs1 (And.intro hx1 hv1))
 clear hb1 rb ba bb hs1 hx1 hv1
 have f0 := RB.out.f 0
 have f1 := RB.out.f 1
 have f2 := RB.out.f 2
 have f3 := RB.out.f 3
 have q0 := RB.out.c0
 have q1 := RB.out.c1
 have q2 := RB.out.c2
 have q3 := RB.out.c3
 simp only [RVal.nil] at q0 q1 q2 q3
 have lt1 := RB.out.lt
 have ltb := BB.out.bx.lt
 have kb0 := BB.out.bx.c0
 have kb1 := BB.out.bx.c1
 go_wp2
 generalize hU : World.alloc (World.setCell (World.setCell (World.setCell (World.setCell w1 _ _) _ _) _ _) _ _) _ = U
 have RU : Rb U (w.heap.size + 1 + 1) RVal.nil := by rw [<- hU]; exact (Rb.put RB.out (RVal.nil_in w1)).alloc (.cells #[.bool (decide (z < 0)), .slice A1 n1 c1] 25)
 have HU : Below w.heap.size w U := by rw [<- hU]; exact (below_put4 HB1.out (show w.heap.size <= w.heap.size + 1 + 1 by omega) _ _ _ _).alloc (by have := HB1.out.size; rw [put4_size]; omega) _
 have j0 := RU.c0
 have j1 := RU.c1
 have j2 := RU.c2
 have j3 := RU.c3
 refine bodyPost_ret (v := .tuple #[.agg #[.bool RVal.nil.g, .slice RVal.nil.A RVal.nil.n RVal.nil.c, .bool RVal.nil.gd, .slice RVal.nil.Ad RVal.nil.nd RVal.nil.cd], .int .i64 4]) (by simp [results, Tryz.results46, go_sem, j0, j1, j2, j3]) rfl ?_
 exact RetR.of RU rfl rfl HU
theorem make_good (neg neg' : Bool) (A A' : Option Addr) (n c n' c' : Nat) (xs ys : List Nat) (w : World) (h : Sl w w.heap.size A n c xs) (h' : Sl w w.heap.size A' n' c' ys) (a b : Int) (hx : ov neg xs = some a) (hy : ov neg' ys = some b) (hb0 : b ≠ 0) (N D : Int) (hN : (Rat.divInt a b).num = N) (hD : ((Rat.divInt a b).den : Int) = D) :
 Calls Tryz.prog 46 #[.agg #[.bool neg, .slice A n c], .agg #[.bool neg', .slice A' n' c']] w (RetR N D 0 w) := by
 have hg := fitE_gcd (ov_lt h.ok hx) (ov_lt h'.ok hy)
 have HGs := Lib.hid (gcdZ_lt (ov_lt h.ok hx) (ov_lt h'.ok hy))
 have HG : Hid (∀ w : World, Sl w w.heap.size A n c xs -> Sl w w.heap.size A' n' c' ys -> Calls Tryz.prog 100 #[.agg #[.bool neg, .slice A n c], .agg #[.bool neg', .slice A' n' c']] w (RetIE (gcdZ a b) 0 w)) := by
  refine Lib.hid fun w h h' => ?_
  have := gcd_ov (neg := neg) (neg' := neg') h h'
  rw [hx, hy] at this
  show Calls Tryz.prog 100 _ w (RetIE (gcdZ a b) 0 w)
  rw [show RetIE (gcdZ a b) 0 w = RetIE (fitZ (gcdZ a b)) (fitE (gcdZ a b)) w by rw [hg.1, hg.2]]
  exact this
 have hn0 : ((n' : Int) == 0) = false := by
  rw [beq_eq_false_iff_ne]
  intro e
  have : ys = [] := List.eq_nil_of_length_eq_zero (by rw [h'.len]; omega)
  have hp := (ov_parts hy).2.1
  rw [this] at hp
  simp [val] at hp
  omega
 have HX := Lib.hid (And.intro hx hy)
 have HS := Lib.hid (And.intro h h')
 have HM := Lib.hid (make_div (a := a) hb0)
 have HND := Lib.hid (And.intro hN hD)
 have HSg := Lib.hid (ov_sign hy)
 have HB0 := Lib.hid hb0
 have HBD := Lib.hid (show N.natAbs < BIG /\ D.natAbs < BIG by
  have l := divInt_le a b hb0
  have l1 := ov_lt h.ok hx
  have l2 := ov_lt h'.ok hy
  omega)
 clear h h' hg hx hy hN hD hb0
 go_enter Tryz.func46, Tryz.ntmps46
 go_wp2_with fail
 generalize hW : World.alloc (World.alloc (World.alloc w _) _) _ = V
 obtain ⟨hb, ba, bb, rb⟩ := mk_boxes neg neg' A A' n c n' c' xs ys w V HS.out.1 HS.out.2 hW
 have HB := Lib.hid hb
 clear hW hb
 generalize hr : w.heap.size = r at *
 have HRr := Lib.hid hr
 clear hr
 refine (HG.out V ba.sl bb.sl).mono ?_
 rintro e w1 ⟨A1, n1, c1, xs1, rfl, hs1, hx1, hv1, hb1⟩
 have HB1 := Lib.hid (below_chain HB.out (by have := HB.out.size; have := HRr.out; omega) hb1)
 have BA := Lib.hid (ba.on hb1)
 have BB := Lib.hid (bb.on hb1)
 have RB := Lib.hid (rb.on hb1)
 have HO := Lib.hid (common_ov HB0.out HSg.out hs1.ok hx1 hv1 HGs.out)
 have HR := Lib.hid hs1
 clear hb1 rb ba bb hs1 hx1 hv1
 have lta := BA.out.bx.lt
 have ka0 := BA.out.bx.c0
 have ka1 := BA.out.bx.c1
 have ltb := BB.out.bx.lt
 have kb0 := BB.out.bx.c0
 have kb1 := BB.out.bx.c1
 go_wp2_with fail
 generalize hW : World.alloc w1 _ = V1
 have hn1 := below_new w1 (.cells #[.bool neg', .slice A1 n1 c1] 25)
 have HV : Hid (Below r w V1 /\ Ba V1 r neg A n c xs /\ Ba V1 (r + 1) neg' A' n' c' ys /\ Rb V1 (r + 1 + 1) RVal.nil /\ Ba V1 w1.heap.size neg' A1 n1 c1 xs1) := by
  rw [<- hW]
  exact Lib.hid ⟨below_chain HB1.out (by have := HB1.out.size; have := HRr.out; omega) hn1, BA.out.on hn1, BB.out.on hn1, RB.out.on hn1, ⟨Bx.new _ _ _ _ _, HR.out.on hn1⟩⟩
 have hs8 : r + 1 + 1 < w1.heap.size := RB.out.lt
 clear hn1 hW lta ka0 ka1 ltb kb0 kb1 BA BB RB HR HB1
 generalize w1.heap.size = s at *
 have C := divMod_ov (neg := neg) (neg' := neg') HV.out.2.1.sl HV.out.2.2.2.2.sl
 rw [HX.out.1, HO.out, HM.out.1, HND.out.1] at C
 refine C.mono ?_
 clear C
 rintro e w2 ⟨A2, n2, c2, xs2, A2', n2', c2', xs2', rfl, hs2, hx2, hv2, hs2', hx2', hv2', hb2⟩
 have H2 := Lib.hid (And.intro hs2 (And.intro hx2 hv2))
 have HW2 : Hid (Below r w w2 /\ Ba w2 r neg A n c xs /\ Ba w2 (r + 1) neg' A' n' c' ys /\ Rb w2 (r + 1 + 1) RVal.nil /\ Ba w2 s neg' A1 n1 c1 xs1) :=
  Lib.hid ⟨below_chain HV.out.1 (by have := HV.out.1.size; have := HRr.out; omega) hb2, HV.out.2.1.on hb2, HV.out.2.2.1.on hb2, HV.out.2.2.2.1.on hb2, HV.out.2.2.2.2.on hb2⟩
 clear hs2 hx2 hv2 hs2' hx2' hv2' hb2 HV
 have ka0 := HW2.out.2.1.bx.c0
 have ka1 := HW2.out.2.1.bx.c1
 have fa0 := HW2.out.2.1.bx.f 0
 have fa1 := HW2.out.2.1.bx.f 1
 have kb0 := HW2.out.2.2.1.bx.c0
 have kb1 := HW2.out.2.2.1.bx.c1
 have kc0 := HW2.out.2.2.2.2.bx.c0
 have kc1 := HW2.out.2.2.2.2.bx.c1
 have ne1 : r + 1 ≠ r := by omega
 have ne2 : s ≠ r := by omega
 have ne3 : r + 1 + 1 ≠ r := by omega
 have ne4 : s ≠ r + 1 := by omega
 have ne5 : r + 1 + 1 ≠ r + 1 := by omega
 have ne6 : r ≠ r + 1 := by omega
 go_wp2_with fail
 generalize hW : World.setCell (World.setCell w2 _ _) _ _ = V3
 have HV : Hid (Below r w V3 /\ Ba V3 r (decide (N < 0)) A2 n2 c2 xs2 /\ Ba V3 (r + 1) neg' A' n' c' ys /\ Rb V3 (r + 1 + 1) RVal.nil /\ Ba V3 s neg' A1 n1 c1 xs1) := by
  rw [<- hW]
  exact Lib.hid ⟨below_ret HW2.out.1 (Nat.le_refl _) _ _, HW2.out.2.1.stored H2.out.1 _, HW2.out.2.2.1.aside HW2.out.2.1 ne1 _ _, HW2.out.2.2.2.1.aside HW2.out.2.1 ne3 _ _, HW2.out.2.2.2.2.aside HW2.out.2.1 ne2 _ _⟩
 have HN2 := Lib.hid H2.out.2
 clear ka0 ka1 fa0 fa1 kb0 kb1 kc0 kc1 hW HW2 H2
 have C := divMod_ov (neg := neg') (neg' := neg') HV.out.2.2.1.sl HV.out.2.2.2.2.sl
 rw [HX.out.2, HO.out, HM.out.2, HND.out.2] at C
 refine C.mono ?_
 clear C
 rintro e w4 ⟨A4, n4, c4, xs4, A4', n4', c4', xs4', rfl, hs4, hx4, hv4, hs4', hx4', hv4', hb4⟩
 have H4 := Lib.hid (And.intro hs4 (And.intro hx4 hv4))
 have HW2 : Hid (Below r w w4 /\ Ba w4 r (decide (N < 0)) A2 n2 c2 xs2 /\ Ba w4 (r + 1) neg' A' n' c' ys /\ Rb w4 (r + 1 + 1) RVal.nil) :=
  Lib.hid ⟨below_chain HV.out.1 (by have := HV.out.1.size; have := HRr.out; omega) hb4, HV.out.2.1.on hb4, HV.out.2.2.1.on hb4, HV.out.2.2.2.1.on hb4⟩
 clear hs4 hx4 hv4 hs4' hx4' hv4' hb4 HV
 have ka0 := HW2.out.2.1.bx.c0
 have ka1 := HW2.out.2.1.bx.c1
 have kb0 := HW2.out.2.2.1.bx.c0
 have kb1 := HW2.out.2.2.1.bx.c1
 have fb0 := HW2.out.2.2.1.bx.f 0
 have fb1 := HW2.out.2.2.1.bx.f 1
 have f0 := HW2.out.2.2.2.f 0
 have f1 := HW2.out.2.2.2.f 1
 have f2 := HW2.out.2.2.2.f 2
 have f3 := HW2.out.2.2.2.f 3
 have q0 := HW2.out.2.2.2.c0
 have q1 := HW2.out.2.2.2.c1
 have q2 := HW2.out.2.2.2.c2
 have q3 := HW2.out.2.2.2.c3
 simp only [RVal.nil] at q0 q1 q2 q3
 go_wp2
 generalize hU : World.setCell (World.setCell (World.setCell (World.setCell (World.setCell (World.setCell w4 _ _) _ _) _ _) _ _) _ _) _ _ = U
 have RB5 := HW2.out.2.2.2.aside HW2.out.2.2.1 ne5 (decide (D < 0)) (.slice A4 n4 c4)
 have BA5 := HW2.out.2.1.aside HW2.out.2.2.1 ne6 (decide (D < 0)) (.slice A4 n4 c4)
 have RU' := Rb.put (q' := ⟨decide (N < 0), A2, n2, c2, xs2, decide (D < 0), A4, n4, c4, xs4⟩) RB5 ⟨BA5.sl, H4.out.1.ret HW2.out.2.2.1.bx _ _⟩
 have RU : Rb U (r + 1 + 1) ⟨decide (N < 0), A2, n2, c2, xs2, decide (D < 0), A4, n4, c4, xs4⟩ := by rw [<- hU]; exact RU'
 have HU : Below w.heap.size w U := by
  rw [<- hU, HRr.out]
  exact below_put4 (below_ret HW2.out.1 (show r <= r + 1 by omega) _ _) (show r <= r + 1 + 1 by omega) _ _ _ _
 have j0 := RU.c0
 have j1 := RU.c1
 have j2 := RU.c2
 have j3 := RU.c3
 dsimp only at j0 j1 j2 j3
 refine bodyPost_ret (v := .tuple #[.agg #[.bool (decide (N < 0)), .slice A2 n2 c2, .bool (decide (D < 0)), .slice A4 n4 c4], .int .i64 0]) (by simp [results, Tryz.results46, go_sem, j0, j1, j2, j3]) rfl ?_
 exact RetR.of RU (ov_res BA5.sl.ok HN2.out.1 HN2.out.2 HBD.out.1) (ov_res H4.out.1.ok H4.out.2.1 H4.out.2.2 HBD.out.2) HU
theorem make_ov {neg neg' : Bool} {A A' : Option Addr} {n c n' c' : Nat} {xs ys : List Nat} {w : World} (h : Sl w w.heap.size A n c xs) (h' : Sl w w.heap.size A' n' c' ys) :
 Calls Tryz.prog 46 #[.agg #[.bool neg, .slice A n c], .agg #[.bool neg', .slice A' n' c']] w (RetR (mkN (ov neg xs) (ov neg' ys)) (mkD (ov neg xs) (ov neg' ys)) (mkE (ov neg xs) (ov neg' ys)) w) := by
 have C : ∀ w : World, Sl w w.heap.size A n c xs -> Sl w w.heap.size A' n' c' ys -> Calls Tryz.prog 100 #[.agg #[.bool neg, .slice A n c], .agg #[.bool neg', .slice A' n' c']] w (RetIE (o2Z gcdZ (ov neg xs) (ov neg' ys)) (o2E gcdZ (ov neg xs) (ov neg' ys)) w) :=
  fun w h h' => gcd_ov h h'
 rcases hx : ov neg xs with _ | a
 . rw [hx] at C
   exact make_bad neg neg' A A' n c n' c' xs ys w h h' _ 1 (by decide) (Lib.hid C)
 . rcases hy : ov neg' ys with _ | b
   . rw [hx, hy] at C
     exact make_bad neg neg' A A' n c n' c' xs ys w h h' _ 1 (by decide) (Lib.hid C)
   . show Calls Tryz.prog 46 _ w (RetR (if b = 0 then 0 else (Rat.divInt a b).num) (if b = 0 then 0 else ((Rat.divInt a b).den : Int)) (if b = 0 then 4 else 0) w)
     by_cases hb : b = 0
     . rw [if_pos hb, if_pos hb, if_pos hb]
       have hg := fitE_gcd (ov_lt h.ok hx) (ov_lt h'.ok hy)
       rw [hx, hy] at C
       refine make_zero neg neg' A A' n c n' c' xs ys w h h' _ _ hg.1 ?_ (Lib.hid C)
       have hp := ov_parts hy
       rw [hb] at hp
       rcases ys with _ | ⟨y, ys⟩
       . have := h'.len; simpa using this.symm
       . have := val_pos hp.1 (by simp)
         rw [hp.2.1] at this
         simp at this
     . rw [if_neg hb, if_neg hb, if_neg hb]
       exact make_good neg neg' A A' n c n' c' xs ys w h h' a b hx hy hb _ _ rfl rfl
end Go.Proofs.YtmncfbfepdbioaaGreatDoor
namespace Go.Proofs.YtmncfbfepdbioaaGreatDoor
open Go.RowKit
theorem wrap_of_neg (n : Int) (h1 : -9223372036854775808 <= n) (h2 : n < 0) : IntKind.u64.wrap (-(IntKind.u64.wrap n)) = -n := by
 rw [IntKind.wrap_u64, IntKind.wrap_u64]; omega
theorem of_any (n : Int) (w : World) (h1 : -9223372036854775808 <= n) (h2 : n <= 9223372036854775807) :
 Calls Tryz.prog 28 #[.int .i64 n] w (RetI n w) := by
 have Hb := Lib.hid ((Below.refl w.heap.size w).alloc (Nat.le_refl _) (.cells #[.bool false, .slice none 0 0] 25))
 by_cases h0 : n < 0
 . have W := Lib.hid (wrap_of_neg n h1 h0)
   have Hd := Lib.hid (show true = decide (n < 0) by simp; omega)
   go_enter Tryz.func28, Tryz.ntmps28
   go_wp2_with fail
   rw [W.out]
   refine (ofWord_any (-n) _ (by omega) (by omega)).mono ?_
   rintro e w1 ⟨A1, n1, c1, xs1, rfl, hs1, hx1, hv1, hb1⟩
   have hbx := (Bx.new w false none 0 0).below hb1 (by simp)
   have hc0 := hbx.c0
   have hc1 := hbx.c1
   have hf0 := hbx.f 0
   have hf1 := hbx.f 1
   have Hbx := Lib.hid hbx
   have Hv := Lib.hid hv1
   clear hv1 hbx
   go_wp2
   exact bodyPost_ret (v := .agg #[.bool true, .slice A1 n1 c1]) (by simp [results, Tryz.results28, go_sem, hc0, hc1]) rfl
    ⟨A1, n1, c1, xs1, ret_neg Hd.out, hs1.ret Hbx.out _ _, hx1, by rw [Hv.out]; omega, below_ret (below_chain Hb.out (by simp) hb1) (Nat.le_refl _) _ _⟩
 . have h3 : 0 <= n := by omega
   have Hd := Lib.hid (show false = decide (n < 0) by simp; omega)
   go_enter Tryz.func28, Tryz.ntmps28
   go_wp2_with fail
   refine (ofWord_any n _ (by omega) (by omega)).mono ?_
   rintro e w1 ⟨A1, n1, c1, xs1, rfl, hs1, hx1, hv1, hb1⟩
   have hbx := (Bx.new w false none 0 0).below hb1 (by simp)
   have hc0 := hbx.c0
   have hc1 := hbx.c1
   have hf0 := hbx.f 0
   have hf1 := hbx.f 1
   have Hbx := Lib.hid hbx
   have Hv := Lib.hid hv1
   clear hv1 hbx
   go_wp2
   exact bodyPost_ret (v := .agg #[.bool false, .slice A1 n1 c1]) (by simp [results, Tryz.results28, go_sem, hc0, hc1]) rfl
    ⟨A1, n1, c1, xs1, ret_neg Hd.out, hs1.ret Hbx.out _ _, hx1, by rw [Hv.out]; omega, below_ret (below_chain Hb.out (by simp) hb1) (Nat.le_refl _) _ _⟩
def RetQ (z zd : Int) (w : World) (e : Ending) (w' : World) : Prop := ∃ q : RVal, e = .returned (.agg #[.bool q.g, .slice q.A q.n q.c, .bool q.gd, .slice q.Ad q.nd q.cd]) /\ q.In w' /\ q.o = some z /\ q.od = some zd /\ Below w.heap.size w w'
theorem RetQ.of {z zd : Int} {w U : World} {r : Nat} {q : RVal} (h : Rb U r q) (hz : q.o = some z) (hd : q.od = some zd) (hb : Below w.heap.size w U) : RetQ z zd w (.returned (.agg #[.bool q.g, .slice q.A q.n q.c, .bool q.gd, .slice q.Ad q.nd q.cd])) U := ⟨q, rfl, h.sl, hz, hd, hb⟩
theorem i64_big {n : Int} (h1 : -9223372036854775808 <= n) (h2 : n <= 9223372036854775807) : n.natAbs < BIG := by
 rw [big_pw]
 exact Nat.lt_of_lt_of_le (show n.natAbs < pw 64 by unfold pw; omega) (pw_le (by omega))
theorem ratOf_any (n d : Int) (w : World) (h1 : -9223372036854775808 <= n) (h2 : n <= 9223372036854775807) (h3 : -9223372036854775808 <= d) (h4 : d <= 9223372036854775807) :
 Calls Tryz.prog 37 #[.int .i64 n, .int .i64 d] w (RetR (mkN (some n) (some d)) (mkD (some n) (some d)) (mkE (some n) (some d)) w) := by
 have HN := Lib.hid (i64_big h1 h2)
 have HD := Lib.hid (i64_big h3 h4)
 generalize hz : mkN (some n) (some d) = z
 generalize hzd : mkD (some n) (some d) = zd
 generalize he : mkE (some n) (some d) = er
 have HZ := Lib.hid (And.intro hz (And.intro hzd he))
 have H12 := Lib.hid (And.intro (And.intro h1 h2) (And.intro h3 h4))
 clear hz hzd he h1 h2 h3 h4
 have R0 := Lib.hid (Rb.new (RVal.nil_in w))
 have B0 := Lib.hid (below_new w (.cells #[.bool RVal.nil.g, .slice RVal.nil.A RVal.nil.n RVal.nil.c, .bool RVal.nil.gd, .slice RVal.nil.Ad RVal.nil.nd RVal.nil.cd] 27))
 go_enter Tryz.func37, Tryz.ntmps37
 go_wp2_with fail
 refine (of_any n _ H12.out.1.1 H12.out.1.2).mono ?_
 rintro e w1 ⟨A1, n1, c1, xs1, rfl, hs1, hx1, hv1, hb1⟩
 have R1 := Lib.hid (R0.out.on hb1)
 have B1 := Lib.hid (below_chain B0.out B0.out.size hb1)
 have O1 := Lib.hid (ov_res hs1.ok hx1 hv1 HN.out)
 have S1 := Lib.hid hs1
 clear hs1 hx1 hv1 hb1 R0 B0
 go_wp2_with fail
 refine (of_any d _ H12.out.2.1 H12.out.2.2).mono ?_
 rintro e w2 ⟨A2, n2, c2, xs2, rfl, hs2, hx2, hv2, hb2⟩
 have R2 := Lib.hid (R1.out.on hb2)
 have B2 := Lib.hid (below_chain B1.out B1.out.size hb2)
 have O2 := Lib.hid (ov_res hs2.ok hx2 hv2 HD.out)
 have S2 := Lib.hid (And.intro (S1.out.on hb2) hs2)
 clear hs2 hx2 hv2 hb2 R1 B1 S1
 go_wp2_with fail
 have C := make_ov (neg := decide (n < 0)) (neg' := decide (d < 0)) S2.out.1 S2.out.2
 rw [O1.out, O2.out, HZ.out.1, HZ.out.2.1, HZ.out.2.2] at C
 refine C.mono ?_
 clear C
 rintro e w3 ⟨q, rfl, hq, ho, hod, hb3⟩
 have R3 := Lib.hid (R2.out.on hb3)
 have B3 := Lib.hid (below_chain B2.out B2.out.size hb3)
 have HQ := Lib.hid (And.intro hq (And.intro ho hod))
 clear hq ho hod hb3 R2 B2 S2 O1 O2
 have f0 := R3.out.f 0
 have f1 := R3.out.f 1
 have f2 := R3.out.f 2
 have f3 := R3.out.f 3
 have q0 := R3.out.c0
 have q1 := R3.out.c1
 have q2 := R3.out.c2
 have q3 := R3.out.c3
 simp only [RVal.nil] at q0 q1 q2 q3
 go_wp2
 generalize hU : World.setCell (World.setCell (World.setCell (World.setCell w3 _ _) _ _) _ _) _ _ = U
 have RU : Rb U w.heap.size q := by rw [<- hU]; exact Rb.put R3.out HQ.out.1
 have HU : Below w.heap.size w U := by rw [<- hU]; exact below_put4 B3.out (Nat.le_refl _) _ _ _ _
 have j0 := RU.c0
 have j1 := RU.c1
 have j2 := RU.c2
 have j3 := RU.c3
 refine bodyPost_ret (v := .tuple #[.agg #[.bool q.g, .slice q.A q.n q.c, .bool q.gd, .slice q.Ad q.nd q.cd], .int .i64 er]) (by simp [results, Tryz.results37, go_sem, j0, j1, j2, j3]) rfl ?_
 exact RetR.of RU HQ.out.2.1 HQ.out.2.2 HU
end Go.Proofs.YtmncfbfepdbioaaGreatDoor
namespace Go.Proofs.YtmncfbfepdbioaaGreatDoor
def coef (p : List Rat) (i : Nat) : Rat := p.getD i 0
def ptrim : List Rat -> List Rat
 | [] => []
 | a :: p => match ptrim p with
   | [] => if a.num = 0 then [] else [a]
   | b :: q => a :: b :: q
def sm : Nat -> (Nat -> Rat) -> Rat
 | 0, _ => 0
 | n + 1, f => sm n f + f n
def pcomb (f : Rat -> Rat -> Rat) (p q : List Rat) : List Rat := ptrim ((List.range (max p.length q.length)).map fun i => f (coef p i) (coef q i))
def padd := pcomb (· + ·)
def psub := pcomb (· - ·)
def pmulc (p q : List Rat) (k : Nat) : Rat := sm (min k (p.length - 1) + 1 - (k + 1 - q.length)) fun j => coef p (k + 1 - q.length + j) * coef q (k - (k + 1 - q.length + j))
def pmul (p q : List Rat) : List Rat := if p.length = 0 \/ q.length = 0 then [] else (List.range (p.length - 1 + (q.length - 1) + 1)).map (pmulc p q)
def pstep (q : List Rat) (k : Nat) (rest : List Rat) : Rat × List Rat :=
 let d := q.length - 1
 let c := coef rest (k + d) / coef q d
 (c, (List.range rest.length).map fun j => if k <= j /\ j < k + d then coef rest j - c * coef q (j - k) else coef rest j)
def pdivs (q : List Rat) : Nat -> List Rat -> List Rat -> List Rat × List Rat
 | 0, quot, rest => (quot, rest)
 | k + 1, quot, rest => let s := pstep q k rest; pdivs q k (s.1 :: quot) s.2
def pdiv (p q : List Rat) : List Rat × List Rat :=
 let d := q.length - 1
 let r := pdivs q (p.length - d) [] p
 (r.1, ptrim (r.2.take (min d p.length)))
def pmonic (p : List Rat) : List Rat := p.map fun a => a / coef p (p.length - 1)
def pgcd : Nat -> List Rat -> List Rat -> List Rat
 | 0, p, _ => pmonic p
 | n + 1, p, q => if q.length = 0 then pmonic p else pgcd n q (pmonic (pdiv p q).2)
def ppow (a : Rat) (n : Nat) : Rat := (List.range n).foldl (fun r _ => r * a) 1
def pres : Nat -> List Rat -> List Rat -> Rat
 | 0, _, _ => 0
 | g + 1, p, q =>
   if p.length = 0 \/ q.length = 0 then 0 else
   let m := p.length - 1; let n := q.length - 1
   if n = 0 then ppow (coef q 0) m else
   let v := if m < n then some (pres g q p) else
    let rest := (pdiv p q).2
    if rest.length = 0 then none else some (ppow (coef q n) (m - (rest.length - 1)) * pres g q rest)
   match v with
   | none => 0
   | some v => if m * n % 2 = 1 then 0 - v else v
def ev : List Rat -> Rat -> Rat
 | [], _ => 0
 | a :: p, x => ev p x * x + a
def pderiv (p : List Rat) : List Rat := (List.range (p.length - 1)).map fun i => ((i + 1 : Nat) : Rat) * coef p (i + 1)
end Go.Proofs.YtmncfbfepdbioaaGreatDoor
namespace Go.Proofs.YtmncfbfepdbioaaGreatDoor
def fz (z : Int) : Bool := decide (z.natAbs < BIG)
def addO (x y : Rat) : Except Int Rat := if (fz (x.num * y.den) && fz (y.num * x.den) && fz (x.num * y.den + y.num * x.den) && fz ((x.den : Int) * y.den)) = true then .ok (x + y) else .error 2
def subO (x y : Rat) : Except Int Rat := if (fz (x.num * y.den) && fz (y.num * x.den) && fz (x.num * y.den - y.num * x.den) && fz ((x.den : Int) * y.den)) = true then .ok (x - y) else .error 2
def mulO (x y : Rat) : Except Int Rat := if (fz (x.num * y.num) && fz ((x.den : Int) * y.den)) = true then .ok (x * y) else .error 2
def divO (x y : Rat) : Except Int Rat := if (fz (x.num * y.den) && fz ((x.den : Int) * y.num)) = true then .ok (x / y) else .error 2
def thenO {α β : Type} (x : Except Int α) (f : α -> Except Int β) : Except Int β := match x with
 | .error e => .error e
 | .ok a => f a
def stepsO {α : Type} (f : Nat -> α -> Except Int α) (a : α) : Nat -> Except Int α
 | 0 => .ok a
 | n + 1 => thenO (stepsO f a n) (f n)
def listO (f : Nat -> Except Int Rat) : Nat -> Except Int (List Rat) := stepsO (fun i l => thenO (f i) fun x => .ok (l ++ [x])) []
def combO (f : Rat -> Rat -> Except Int Rat) (p q : List Rat) : Except Int (List Rat) := thenO (listO (fun i => f (coef p i) (coef q i)) (max p.length q.length)) fun l => .ok (ptrim l)
def mulcO (p q : List Rat) (k : Nat) : Except Int Rat :=
 stepsO (fun j r => thenO (mulO (coef p (k + 1 - q.length + j)) (coef q (k - (k + 1 - q.length + j)))) fun t => addO r t) 0 (min k (p.length - 1) + 1 - (k + 1 - q.length))
def pmulO (p q : List Rat) : Except Int (List Rat) :=
 if p.length = 0 \/ q.length = 0 then .ok [] else
 if 64 < p.length - 1 + (q.length - 1) then .error 2 else
 listO (mulcO p q) (p.length - 1 + (q.length - 1) + 1)
def powO (a : Rat) (n : Nat) : Except Int Rat := stepsO (fun _ r => mulO r a) 1 n
def monicO (p : List Rat) : Except Int (List Rat) := listO (fun i => divO (coef p i) (coef p (p.length - 1))) p.length
def restO (q : List Rat) (c : Rat) (k i : Nat) (rest : List Rat) : Except Int (List Rat) := thenO (mulO c (coef q i)) fun t => thenO (subO (coef rest (k + i)) t) fun x => .ok (rest.set (k + i) x)
def rowO (q : List Rat) (k : Nat) (s : List Rat × List Rat) : Except Int (List Rat × List Rat) :=
 thenO (divO (coef s.2 (k + (q.length - 1))) (coef q (q.length - 1))) fun c => thenO (stepsO (restO q c k) s.2 (q.length - 1)) fun rest => .ok (c :: s.1, rest)
def pdivO (p q : List Rat) : Except Int (List Rat × List Rat) :=
 if q.length = 0 then .error 4 else
 thenO (stepsO (fun j s => rowO q (p.length - (q.length - 1) - 1 - j) s) ([], p) (p.length - (q.length - 1))) fun s => .ok (s.1, ptrim (s.2.take (min (q.length - 1) p.length)))
def gcdO : Nat -> List Rat -> List Rat -> Except Int (List Rat)
 | 0, p, _ => monicO p
 | n + 1, p, q => if q.length = 0 then monicO p else thenO (pdivO p q) fun d => thenO (monicO d.2) fun r => gcdO n q r
def resO : Nat -> List Rat -> List Rat -> Except Int Rat
 | 0, _, _ => .ok 0
 | g + 1, p, q =>
   if p.length = 0 \/ q.length = 0 then .ok 0 else
   if q.length - 1 = 0 then powO (coef q 0) (p.length - 1) else
   if p.length - 1 < q.length - 1 then
    thenO (resO g q p) fun v => if (p.length - 1) * (q.length - 1) % 2 = 1 then subO 0 v else .ok v
   else thenO (pdivO p q) fun d =>
    if d.2.length = 0 then .ok 0 else
    thenO (powO (coef q (q.length - 1)) (p.length - 1 - (d.2.length - 1))) fun a => thenO (resO g q d.2) fun b => thenO (mulO a b) fun v =>
    if (p.length - 1) * (q.length - 1) % 2 = 1 then subO 0 v else .ok v
section
variable {α β : Type}
theorem stepsO_succ (f : Nat -> α -> Except Int α) (a : α) (n : Nat) : stepsO f a (n + 1) = thenO (stepsO f a n) (f n) := rfl
theorem thenO_ok {x : Except Int α} {a : α} (h : x = .ok a) (f : α -> Except Int β) : thenO x f = f a := by rw [h]; rfl
theorem thenO_err {x : Except Int α} {e : Int} (h : x = .error e) (f : α -> Except Int β) : thenO x f = .error e := by rw [h]; rfl
theorem thenO_inv {x : Except Int α} {f : α -> Except Int β} {b : β} (h : thenO x f = .ok b) : ∃ a, x = .ok a /\ f a = .ok b := by
 rcases x with e | a
 . cases h
 . exact ⟨a, rfl, h⟩
theorem listO_len {f : Nat -> Except Int Rat} : ∀ {n : Nat} {l : List Rat}, listO f n = .ok l -> l.length = n
 | 0, l, h => by injection h with h; subst h; rfl
 | n + 1, l, h => by
   obtain ⟨x, hx, hf⟩ := thenO_inv h
   obtain ⟨y, hy, hl⟩ := thenO_inv hf
   injection hl with hl
   subst hl
   rw [List.length_append, listO_len hx]
   rfl
theorem stepsO_err (f : Nat -> α -> Except Int α) (a : α) {k n : Nat} {e : Int} (hk : k <= n) (h : stepsO f a k = .error e) : stepsO f a n = .error e := by
 induction n with
 | zero =>
   rw [show k = 0 by omega] at h
   exact h
 | succ n ih =>
   by_cases c : k <= n
   . rw [stepsO_succ, thenO_err (ih c)]
   . rw [show n + 1 = k by omega]
     exact h
end
end Go.Proofs.YtmncfbfepdbioaaGreatDoor
