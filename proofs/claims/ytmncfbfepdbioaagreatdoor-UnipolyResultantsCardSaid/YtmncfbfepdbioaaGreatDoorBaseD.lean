/-
 Stage 2: the rational's isOne. Written by mkbase.py: GcdP.
-/
import Derived.Deep.DeepCutAuto
import Derived.IntWalk
import Derived.Test.YtmncfbfepdbioaaGreatDoorBaseC
set_option maxHeartbeats 4000000
set_option maxRecDepth 20000
namespace Go.Proofs.YtmncfbfepdbioaaGreatDoor
open Go.RowKit
def oneB (o : Option Int) : Bool := smB o && (smZ o == 1)
theorem oneB_iff (o : Option Int) : oneB o = true ↔ o = some 1 := by
 unfold oneB smZ
 rcases o with _ | a
 . simp [smB]
 . constructor
   . intro h
     rw [Bool.and_eq_true] at h
     rw [if_pos h.1] at h
     have := eq_of_beq h.2
     simp only [Option.getD_some] at this
     rw [this]
   . intro h
     injection h with h
     subst h
     rfl
theorem isOne_ov {neg : Bool} {A : Option Addr} {n c : Nat} {xs : List Nat} {w : World} (h : Sl w w.heap.size A n c xs) :
 Calls Tryz.prog 120 #[.agg #[.bool neg, .slice A n c]] w fun e w' => e = .returned (.bool (oneB (ov neg xs))) /\ Below w.heap.size w w' := by
 have S := fun (w : World) (h : Sl w w.heap.size A n c xs) => small_ov (neg := neg) h
 unfold oneB
 generalize smZ (ov neg xs) = z at *
 generalize smB (ov neg xs) = b at *
 have HS := Lib.hid S
 clear S
 rcases b with _ | _
 all_goals
  go_enter Tryz.func120, Tryz.ntmps120
  go_wp2_with fail
  have hs := h.on (below_new w (.cells #[.bool neg, .slice A n c] 25))
  refine (HS.out _ hs).mono ?_
  rintro e w1 ⟨rfl, hb1⟩
  have HB := Lib.hid (below_chain (below_new w (.cells #[.bool neg, .slice A n c] 25)) (by simp) hb1)
  clear hb1 hs
  go_wp2
  go_ret
  exact ⟨rfl, HB.out⟩
end Go.Proofs.YtmncfbfepdbioaaGreatDoor
namespace Go.Proofs.YtmncfbfepdbioaaGreatDoor
def Sim (x y a b : Nat) (a0 b0 a1 b1 : Int) : Prop := ∃ (p0 q0 p1 q1 : Nat) (s : Int), (s = 1 \/ s = -1) /\ a0 = s * p0 /\ b0 = -(s * q0) /\ a1 = -(s * p1) /\ b1 = s * q1 ∧
 x = q1 * a + q0 * b /\ y = p1 * a + p0 * b /\ (p0 : Int) * q1 - p1 * q0 = s /\ q0 <= q1 /\ p1 <= q1 /\ 1 <= q1 /\ b <= a /\ ((p0 = 1 /\ q0 = 0 /\ p1 = 0 /\ q1 = 1 /\ s = 1) \/ (p0 <= q0 /\ 1 <= q0 /\ 1 <= p1))
def Coll (a b : Nat) (b0 b1 : Int) : Prop := b1.natAbs <= b /\ b0.natAbs + b1.natAbs <= a - b
def Fin' (x y : Nat) (a0 b0 a1 b1 : Int) : Prop := (a0 = 1 /\ b0 = 0 /\ a1 = 0 /\ b1 = 1) \/ ∃ a b, Sim x y a b a0 b0 a1 b1 /\ b0 ≠ 0 /\ Coll a b b0 b1
theorem sim_start {x y : Nat} (h : y <= x) : Sim x y x y 1 0 0 1 := ⟨1, 0, 0, 1, 1, .inl rfl, rfl, rfl, rfl, rfl, by omega, by omega, rfl, by omega, by omega, by omega, h, .inl ⟨rfl, rfl, rfl, rfl, rfl⟩⟩
theorem sim_next {x y a b : Nat} {a0 b0 a1 b1 : Int} (h : Sim x y a b a0 b0 a1 b1) (hb : 0 < b) : Sim x y b (a % b) a1 b1 (a0 - (a / b : Nat) * a1) (b0 - (a / b : Nat) * b1) /\ b1 ≠ 0 := by
 obtain ⟨p0, q0, p1, q1, s, hs, rfl, rfl, rfl, rfl, hx, hy, hd, h01, hp1, hq1, hle, hk⟩ := h
 have hk1 : 1 <= a / b := (Nat.one_le_div_iff hb).2 hle
 have hm := Nat.mod_lt a hb
 have he := Nat.div_add_mod a b
 generalize a / b = k at *
 generalize a % b = r at *
 subst he
 refine ⟨⟨p1, q1, p0 + k * p1, q0 + k * q1, -s, by omega, by grind, by grind, by grind, by grind, by grind, by grind, by grind, ?_, ?_, ?_, by omega, .inr ⟨hp1, hq1, ?_⟩⟩, ?_⟩
 . have : 1 * q1 <= k * q1 := Nat.mul_le_mul_right _ hk1
   omega
 . rcases hk with ⟨rfl, rfl, rfl, rfl, -⟩ | ⟨h1, h2, h3⟩
   . omega
   . have := Nat.mul_le_mul_left k hp1
     omega
 . have : 1 * q1 <= k * q1 := Nat.mul_le_mul_right _ hk1
   omega
 . rcases hk with ⟨rfl, rfl, rfl, rfl, -⟩ | ⟨h1, h2, h3⟩
   . omega
   . have : 1 * p1 <= k * p1 := Nat.mul_le_mul_right _ hk1
     omega
 . rcases hs with rfl | rfl <;> omega
theorem sim_bd {x y a b : Nat} {a0 b0 a1 b1 : Int} (h : Sim x y a b a0 b0 a1 b1) (hx : x < 4611686018427387904) (hb : 0 < b) :
 (a0.natAbs < 4611686018427387904 /\ b0.natAbs < 4611686018427387904 /\ a1.natAbs < 4611686018427387904 /\ b1.natAbs < 4611686018427387904) /\ a < 4611686018427387904 /\ b <= a := by
 obtain ⟨p0, q0, p1, q1, s, hs, rfl, rfl, rfl, rfl, hx', hy, hd, h01, hp1, hq1, hle, hk⟩ := h
 have e1 : q1 * 1 <= q1 * a := Nat.mul_le_mul_left _ (by omega)
 have e2 : 1 * a <= q1 * a := Nat.mul_le_mul_right _ hq1
 have e3 : p0 <= q1 := by omega
 generalize q1 * a = u at *
 generalize q0 * b = v at *
 refine ⟨?_, by omega, hle⟩
 rcases hs with rfl | rfl <;> omega
theorem sim_bd2 {x y a b : Nat} {a0 b0 a1 b1 : Int} (h : Sim x y a b a0 b0 a1 b1) (hx : x < 4611686018427387904) (hb : 0 < b) :
 (((a / b : Nat) : Int) * a1).natAbs < 4611686018427387904 /\ (((a / b : Nat) : Int) * b1).natAbs < 4611686018427387904 := by
 obtain ⟨p0, q0, p1, q1, s, hs, rfl, rfl, rfl, rfl, hx', hy, hd, h01, hp1, hq1, hle, hk⟩ := h
 have he := Nat.div_add_mod a b
 generalize a / b = k at *
 generalize a % b = r at *
 have e1 : k * q1 <= x := by
  rw [hx', <- he, Nat.mul_add]
  have : k * q1 * 1 <= k * q1 * b := Nat.mul_le_mul_left _ hb
  rw [Nat.mul_one, Nat.mul_comm k q1, Nat.mul_assoc, Nat.mul_comm k b] at this
  rw [Nat.mul_comm k q1]
  omega
 have e2 : k * p1 <= k * q1 := Nat.mul_le_mul_left k hp1
 have f1 : ((k : Int) * -(s * p1)) = -(s * ((k * p1 : Nat) : Int)) := by rw [Int.natCast_mul]; grind
 have f2 : ((k : Int) * (s * q1)) = s * ((k * q1 : Nat) : Int) := by rw [Int.natCast_mul]; grind
 rw [f1, f2]
 generalize k * p1 = u at *
 generalize k * q1 = v at *
 rcases hs with rfl | rfl <;> omega
theorem fin_small {x y : Nat} {a0 b0 a1 b1 : Int} (h : Fin' x y a0 b0 a1 b1) (hx : x < 4611686018427387904) :
 (a0.natAbs < 2147483648 /\ b0.natAbs < 2147483648 /\ a1.natAbs < 2147483648 /\ b1.natAbs < 2147483648) /\ ((0 <= a0 /\ b0 <= 0) \/ (a0 <= 0 /\ 0 <= b0)) /\ ((0 <= a1 /\ b1 <= 0) \/ (a1 <= 0 /\ 0 <= b1)) := by
 rcases h with ⟨rfl, rfl, rfl, rfl⟩ | ⟨a, b, ⟨p0, q0, p1, q1, s, hs, rfl, rfl, rfl, rfl, hx', hy, hd, h01, hp1, hq1, hle, hk⟩, hne, hc1, hc2⟩
 . omega
 have hk : p0 <= q0 := by
  rcases hk with ⟨rfl, rfl, rfl, rfl, rfl⟩ | ⟨h, _⟩
  . exact absurd rfl hne
  . exact h
 have e1 : (s * (q1 : Int)).natAbs = q1 := by rcases hs with rfl | rfl <;> omega
 have e0 : (-(s * (q0 : Int))).natAbs = q0 := by rcases hs with rfl | rfl <;> omega
 rw [e1] at hc1 hc2
 rw [e0] at hc2
 have hq : q1 < 2147483648 := by
  rcases Nat.lt_or_ge q1 2147483648 with h | h
  . exact h
  . exfalso
    have c := Nat.mul_le_mul h (show 2147483648 <= a by omega)
    omega
 rcases hs with rfl | rfl <;> omega
theorem fin_apply {x y A B F α β : Nat} {a0 b0 a1 b1 : Int} (h : Fin' x y a0 b0 a1 b1) (hne : b0 ≠ 0) (hA : A = x * F + α) (hB : B = y * F + β) (hα : α < F) (hβ : β < F) :
 ∃ A' B' : Nat, a0 * A + b0 * B = A' /\ a1 * A + b1 * B = B' /\ Nat.gcd A' B' = Nat.gcd A B /\ A' <= B /\ B' < A' := by
 rcases h with ⟨rfl, rfl, rfl, rfl⟩ | ⟨a, b, ⟨p0, q0, p1, q1, s, hs, rfl, rfl, rfl, rfl, hx', hy, hd, h01, hp1, hq1, hle, hk⟩, -, hc1, hc2⟩
 . exact absurd rfl hne
 have hk : p0 <= q0 /\ 1 <= q0 /\ 1 <= p1 := by
  rcases hk with ⟨rfl, rfl, rfl, rfl, rfl⟩ | h
  . exact absurd rfl hne
  . exact h
 have e1 : (s * (q1 : Int)).natAbs = q1 := by rcases hs with rfl | rfl <;> omega
 have e0 : (-(s * (q0 : Int))).natAbs = q0 := by rcases hs with rfl | rfl <;> omega
 rw [e1] at hc1 hc2
 rw [e0] at hc2
 have ss : s * s = 1 := by rcases hs with rfl | rfl <;> rfl
 have dA : s * p0 * (A : Int) + -(s * q0) * B = a * F + s * (p0 * α - q0 * β) := by
  rw [hA, hB, hx', hy]; push_cast; grind
 have dB : -(s * p1) * (A : Int) + s * q1 * B = b * F + s * (q1 * β - p1 * α) := by
  rw [hA, hB, hx', hy]; push_cast; grind
 have l1 : p0 * α <= q0 * (F - 1) := Nat.mul_le_mul hk.1 (by omega)
 have l2 : q0 * β <= q0 * (F - 1) := Nat.mul_le_mul (Nat.le_refl _) (by omega)
 have l3 : q1 * β <= q1 * (F - 1) := Nat.mul_le_mul (Nat.le_refl _) (by omega)
 have l4 : p1 * α <= q1 * (F - 1) := Nat.mul_le_mul hp1 (by omega)
 have m1 : q1 * F <= b * F := Nat.mul_le_mul_right _ hc1
 have m2 : (b + q0 + q1) * F <= a * F := Nat.mul_le_mul_right _ (by omega)
 rw [Nat.add_mul, Nat.add_mul] at m2
 have n1 : q0 * (F - 1) + q0 = q0 * F := by rw [<- Nat.mul_succ]; congr 1; omega
 have n2 : q1 * (F - 1) + q1 = q1 * F := by rw [<- Nat.mul_succ]; congr 1; omega
 have c1 : ((p0 : Int) * α) = ((p0 * α : Nat) : Int) := by rw [Int.natCast_mul]
 have c2 : ((q0 : Int) * β) = ((q0 * β : Nat) : Int) := by rw [Int.natCast_mul]
 have c3 : ((q1 : Int) * β) = ((q1 * β : Nat) : Int) := by rw [Int.natCast_mul]
 have c4 : ((p1 : Int) * α) = ((p1 * α : Nat) : Int) := by rw [Int.natCast_mul]
 have c5 : ((a : Int) * F) = ((a * F : Nat) : Int) := by rw [Int.natCast_mul]
 have c6 : ((b : Int) * F) = ((b * F : Nat) : Int) := by rw [Int.natCast_mul]
 have pos : (0 : Int) <= a * F + s * (p0 * α - q0 * β) /\ (0 : Int) < b * F + s * (q1 * β - p1 * α) /\ (b * F + s * (q1 * β - p1 * α) : Int) < a * F + s * (p0 * α - q0 * β) := by
  rw [c1, c2, c3, c4, c5, c6]
  clear dA dB c1 c2 c3 c4 c5 c6 hd hx' hy hA hB e1 e0
  generalize p0 * α = u1 at *
  generalize q0 * β = u2 at *
  generalize q1 * β = u3 at *
  generalize p1 * α = u4 at *
  generalize a * F = u5 at *
  generalize b * F = u6 at *
  generalize q0 * F = u7 at *
  generalize q1 * F = u8 at *
  generalize q0 * (F - 1) = u9 at *
  generalize q1 * (F - 1) = w0 at *
  rcases hs with rfl | rfl <;> omega
 obtain ⟨A', hA'⟩ := Int.eq_ofNat_of_zero_le pos.1
 obtain ⟨B', hB'⟩ := Int.eq_ofNat_of_zero_le (Int.le_of_lt pos.2.1)
 rw [hA'] at dA
 rw [hB'] at dB
 have hlt : B' < A' := by have := pos.2.2; rw [hA', hB'] at this; exact Int.ofNat_lt.1 this
 clear pos hA' hB' c1 c2 c3 c4 c5 c6 l1 l2 l3 l4 m1 m2 n1 n2
 have iA : A = q1 * A' + q0 * B' := by
  have : (A : Int) = q1 * A' + q0 * B' := by rw [<- dA, <- dB]; grind
  omega
 have iB : B = p1 * A' + p0 * B' := by
  have : (B : Int) = p1 * A' + p0 * B' := by rw [<- dA, <- dB]; grind
  omega
 refine ⟨A', B', dA, dB, ?_, ?_, hlt⟩
 . apply Nat.dvd_antisymm
   . apply Nat.dvd_gcd
     . rw [iA]; exact Nat.dvd_add (Nat.dvd_mul_left_of_dvd (Nat.gcd_dvd_left _ _) _) (Nat.dvd_mul_left_of_dvd (Nat.gcd_dvd_right _ _) _)
     . rw [iB]; exact Nat.dvd_add (Nat.dvd_mul_left_of_dvd (Nat.gcd_dvd_left _ _) _) (Nat.dvd_mul_left_of_dvd (Nat.gcd_dvd_right _ _) _)
   . have gA : ((Nat.gcd A B : Nat) : Int) ∣ (A : Int) := Int.natCast_dvd_natCast.2 (Nat.gcd_dvd_left _ _)
     have gB : ((Nat.gcd A B : Nat) : Int) ∣ (B : Int) := Int.natCast_dvd_natCast.2 (Nat.gcd_dvd_right _ _)
     apply Nat.dvd_gcd
     . exact Int.natCast_dvd_natCast.1 (by
        have e : (A' : Int) = s * p0 * (A : Int) + -(s * q0) * B := dA.symm
        rw [e]; exact Int.dvd_add (Int.dvd_mul_of_dvd_right gA) (Int.dvd_mul_of_dvd_right gB))
     . exact Int.natCast_dvd_natCast.1 (by
        have e : (B' : Int) = -(s * p1) * (A : Int) + s * q1 * B := dB.symm
        rw [e]; exact Int.dvd_add (Int.dvd_mul_of_dvd_right gA) (Int.dvd_mul_of_dvd_right gB))
 . rw [iB]
   have : 1 * A' <= p1 * A' := Nat.mul_le_mul_right _ hk.2.2
   omega
theorem low_limbs {P V A' : Nat} {c d : Int} (hv : V < P) (hA : A' < P) (h : (V : Int) + P * c = A' + P * d) : V = A' := by
 have h1 : ((V : Int) + P * c) % P = V := by rw [Int.add_mul_emod_self_left]; exact Int.emod_eq_of_lt (by omega) (by omega)
 have h2 : ((A' : Int) + P * d) % P = A' := by rw [Int.add_mul_emod_self_left]; exact Int.emod_eq_of_lt (by omega) (by omega)
 rw [h, h2] at h1
 omega
end Go.Proofs.YtmncfbfepdbioaaGreatDoor
namespace Go.Proofs.YtmncfbfepdbioaaGreatDoor
theorem prod_bd {a : Int} {x : Nat} (ha : a.natAbs < 2147483648) (hx : x < 4294967296) : (0 <= a -> 0 <= a * x /\ a * x <= 9223372030412324865) /\ (a <= 0 -> -9223372030412324865 <= a * x /\ a * x <= 0) := by
 have h : a.natAbs * x <= 2147483647 * 4294967295 := Nat.mul_le_mul (by omega) (by omega)
 have e : ((a.natAbs * x : Nat) : Int) = a.natAbs * (x : Int) := Int.natCast_mul _ _
 constructor
 . intro h0
   have e2 : (a.natAbs : Int) = a := by omega
   rw [e2] at e
   omega
 . intro h0
   have e2 : (a.natAbs : Int) = -a := by omega
   rw [e2, Int.neg_mul] at e
   omega
theorem row_bd {a b : Int} {x y : Nat} (ha : a.natAbs < 2147483648) (hb : b.natAbs < 2147483648) (hs : (0 <= a /\ b <= 0) \/ (a <= 0 /\ 0 <= b)) (hx : x < 4294967296) (hy : y < 4294967296) :
 -9223372030412324865 <= a * x /\ a * x <= 9223372030412324865 /\ -9223372030412324865 <= b * y /\ b * y <= 9223372030412324865 /\ -9223372030412324865 <= a * x + b * y /\ a * x + b * y <= 9223372030412324865 := by
 have h1 := prod_bd ha hx
 have h2 := prod_bd hb hy
 generalize a * (x : Int) = u at *
 generalize b * (y : Int) = v at *
 rcases hs with ⟨p, q⟩ | ⟨p, q⟩
 . have := h1.1 p; have := h2.2 q; omega
 . have := h1.2 p; have := h2.1 q; omega
theorem ap_rel {zs zr : List Nat} {k X Y x y : Nat} {a b c : Int} (hlt : k < zr.length) (hsame : Same zs zr 0 k) (hok : Ok zr)
 (hval : ((wv zr 0 k : Nat) : Int) + (4294967296 ^ k : Nat) * c = a * (X : Nat) + b * (Y : Nat)) (s : Int) (hs : c + (a * (x : Int) + b * (y : Int)) = s) :
 Same zs (zr.set k (s % 4294967296).toNat) 0 (k + 1) /\ Ok (zr.set k (s % 4294967296).toNat) ∧
 ((wv (zr.set k (s % 4294967296).toNat) 0 (k + 1) : Nat) : Int) + (4294967296 ^ (k + 1) : Nat) * (s / 4294967296) = a * ((X + 4294967296 ^ k * x : Nat) : Int) + b * ((Y + 4294967296 ^ k * y : Nat) : Int) := by
 have hv : (s % 4294967296).toNat < 4294967296 := by omega
 have hd : ((s % 4294967296).toNat : Int) + 4294967296 * (s / 4294967296) = s := by omega
 refine ⟨⟨by rw [List.length_set]; exact hsame.1, fun i hi => ?_⟩, hok.set _ hv, ?_⟩
 . rw [lim_set_ne (by omega)]; exact hsame.2 i (by omega)
 . have e : wv (zr.set k (s % 4294967296).toNat) 0 (k + 1) = wv zr 0 k + 4294967296 ^ k * (s % 4294967296).toNat := by
    have := wv_set_end (zs := zr) (off := 0) (k := k) (v := (s % 4294967296).toNat) (by omega)
    rwa [Nat.zero_add] at this
   rw [e, Nat.pow_succ]
   generalize (s % 4294967296).toNat = v at *
   generalize s / 4294967296 = d at *
   generalize (4294967296 : Nat) ^ k = P at *
   generalize wv zr 0 k = Z at *
   simp only [Int.natCast_add, Int.natCast_mul] at *
   subst hd
   grind
theorem ap_end {zr zs : List Nat} {n m A' Y : Nat} {a b c : Int} (hz : Ok zr) (hmn : m <= n) (hA : A' < 4294967296 ^ m)
 (he : a * ((val (zs.take n) : Nat) : Int) + b * (Y : Nat) = A') (hval : ((wv zr 0 m : Nat) : Int) + (4294967296 ^ m : Nat) * c = a * ((wv zs 0 m : Nat) : Int) + b * (Y : Nat)) : wv zr 0 m = A' := by
 have e : val (zs.take n) = wv zs 0 m + 4294967296 ^ m * wv zs (0 + m) (n - m) := by
  rw [<- wv_val, <- wv_add]; congr 1; omega
 have hv := wv_lt hz 0 m
 rw [e] at he
 generalize wv zs (0 + m) (n - m) = H at *
 generalize wv zs 0 m = X at *
 generalize wv zr 0 m = Z at *
 generalize (4294967296 : Nat) ^ m = P at *
 refine low_limbs (c := c) (d := -(a * H)) hv hA ?_
 simp only [Int.natCast_add, Int.natCast_mul] at *
 grind
theorem win_val {N l t : Nat} (ht : t < 32) (hN : N < 2 ^ (32 * l + t + 62)) :
 N / 2 ^ (32 * l + t) = (N / 4294967296 ^ l % 4294967296 + 4294967296 * (N / 4294967296 ^ (l + 1) % 4294967296)) / 2 ^ t + (N / 4294967296 ^ (l + 2) % 4294967296) * 2 ^ (64 - t) ∧
 N / 2 ^ (32 * l + t) < 4611686018427387904 := by
 have e : (4294967296 : Nat) ^ l = 2 ^ (32 * l) := by rw [show (4294967296 : Nat) = 2 ^ 32 by decide, <- Nat.pow_mul]
 have e1 : N / 2 ^ (32 * l + t) = N / 4294967296 ^ l / 2 ^ t := by rw [Nat.pow_add, <- e, Nat.div_div_eq_div_mul]
 have e2 : N / 4294967296 ^ (l + 1) = N / 4294967296 ^ l / 4294967296 := by rw [Nat.pow_succ, Nat.div_div_eq_div_mul]
 have e3 : N / 4294967296 ^ (l + 2) = N / 4294967296 ^ l / 4294967296 / 4294967296 := by rw [Nat.pow_succ, Nat.pow_succ, Nat.div_div_eq_div_mul, Nat.div_div_eq_div_mul, Nat.mul_assoc]
 have hM : N / 4294967296 ^ l < 2 ^ (t + 62) := by
  rw [Nat.div_lt_iff_lt_mul (pow_pos' l), e, <- Nat.pow_add]
  exact Nat.lt_of_lt_of_le hN (Nat.pow_le_pow_right (by decide) (by omega))
 rw [e1, e2, e3]
 generalize N / 4294967296 ^ l = M at *
 have hM2 : M < 79228162514264337593543950336 := Nat.lt_of_lt_of_le hM (Nat.le_trans (Nat.pow_le_pow_right (by decide) (show t + 62 <= 96 by omega)) (by decide))
 have hd : M = (M % 4294967296 + 4294967296 * (M / 4294967296 % 4294967296)) + 2 ^ t * (2 ^ (64 - t) * (M / 4294967296 / 4294967296 % 4294967296)) := by
  rw [<- Nat.mul_assoc, <- Nat.pow_add, show t + (64 - t) = 64 by omega, show (2 : Nat) ^ 64 = 18446744073709551616 by decide]
  omega
 have hp : 0 < 2 ^ t := Nat.pow_pos (by decide)
 constructor
 . conv => lhs; rw [hd]
   rw [Nat.add_mul_div_left _ _ hp, Nat.mul_comm (2 ^ (64 - t))]
 . rw [Nat.div_lt_iff_lt_mul hp, show (4611686018427387904 : Nat) = 2 ^ 62 by decide, <- Nat.pow_add, Nat.add_comm]
   exact hM
theorem win_rest (N f : Nat) : N = N / 2 ^ f * 2 ^ f + N % 2 ^ f /\ N % 2 ^ f < 2 ^ f := ⟨by rw [Nat.mul_comm]; exact (Nat.div_add_mod N (2 ^ f)).symm, Nat.mod_lt _ (Nat.pow_pos (by decide))⟩
end Go.Proofs.YtmncfbfepdbioaaGreatDoor
namespace Go.Proofs.YtmncfbfepdbioaaGreatDoor
open Go.RowKit
theorem distance_any (z : Int) (w : World) (h0 : -9223372036854775807 <= z) (h1 : z <= 9223372036854775807) :
 Calls Tryz.prog 210 #[.int .i64 z] w fun e w' => e = .returned (.int .u64 (z.natAbs : Nat)) /\ w' = w := by
 by_cases hz : z < 0
 . have e : ((z.natAbs : Nat) : Int) = -z := by omega
   rw [e]
   clear e
   go_enter Tryz.func210, Tryz.ntmps210
   go_wp2
   go_ret
   exact ⟨rfl, rfl⟩
 . have e : ((z.natAbs : Nat) : Int) = z := by omega
   rw [e]
   clear e
   have hz' : 0 <= z := by omega
   go_enter Tryz.func210, Tryz.ntmps210
   go_wp2
   go_ret
   exact ⟨rfl, rfl⟩
def Fb (w : World) (r : Nat) (a0 b0 a1 b1 : Int) : Prop := Blk w r 153 #[.int .i64 a0, .int .i64 b0, .int .i64 a1, .int .i64 b1]
section
variable {w w' : World} {r : Nat} {a0 b0 a1 b1 : Int}
theorem Fb.c0 (h : Fb w r a0 b0 a1 b1) : w.cell? ⟨r, 0, none⟩ = some (.int .i64 a0) := by rw [Blk.cell h 0]; rfl
theorem Fb.c1 (h : Fb w r a0 b0 a1 b1) : w.cell? ⟨r, 1, none⟩ = some (.int .i64 b0) := by rw [Blk.cell h 1]; rfl
theorem Fb.c2 (h : Fb w r a0 b0 a1 b1) : w.cell? ⟨r, 2, none⟩ = some (.int .i64 a1) := by rw [Blk.cell h 2]; rfl
theorem Fb.c3 (h : Fb w r a0 b0 a1 b1) : w.cell? ⟨r, 3, none⟩ = some (.int .i64 b1) := by rw [Blk.cell h 3]; rfl
theorem Fb.f (h : Fb w r a0 b0 a1 b1) (i : Nat) : w.frozen? ⟨r, i, none⟩ = false := Blk.frozen h i
theorem Fb.lt (h : Fb w r a0 b0 a1 b1) : r < w.heap.size := Blk.lt h
theorem Fb.stored (h : Fb w r a0 b0 a1 b1) (d0 d1 d2 d3 : Int) : Fb ((((w.setCell ⟨r, 0, none⟩ (.int .i64 d0)).setCell ⟨r, 1, none⟩ (.int .i64 d1)).setCell ⟨r, 2, none⟩ (.int .i64 d2)).setCell ⟨r, 3, none⟩ (.int .i64 d3)) r d0 d1 d2 d3 :=
 Blk.set_ (Blk.set_ (Blk.set_ (Blk.set_ h 0 _) 1 _) 2 _) 3 _
theorem Fb.aside {r' : Nat} (h : Fb w r a0 b0 a1 b1) (hne : r ≠ r') (d0 d1 d2 d3 : Value) : Fb ((((w.setCell ⟨r', 0, none⟩ d0).setCell ⟨r', 1, none⟩ d1).setCell ⟨r', 2, none⟩ d2).setCell ⟨r', 3, none⟩ d3) r a0 b0 a1 b1 :=
 Blk.far (Blk.far (Blk.far (Blk.far h (p := ⟨r', 0, none⟩) hne _) (p := ⟨r', 1, none⟩) hne _) (p := ⟨r', 2, none⟩) hne _) (p := ⟨r', 3, none⟩) hne _
theorem below_four {B r' : Nat} {w w' : World} (h : Below B w w') (hr : B <= r') (d0 d1 d2 d3 : Value) : Below B w ((((w'.setCell ⟨r', 0, none⟩ d0).setCell ⟨r', 1, none⟩ d1).setCell ⟨r', 2, none⟩ d2).setCell ⟨r', 3, none⟩ d3) :=
 (((h.setCell hr d0).setCell hr d1).setCell hr d2).setCell hr d3
end
theorem sim_boxes (w W : World)
 (hW : (w.alloc (.cells #[.int .i64 0, .int .i64 0, .int .i64 0, .int .i64 0] 153)).alloc (.cells #[.int .i64 1, .int .i64 0, .int .i64 0, .int .i64 1] 153) = W) :
 Below w.heap.size w W /\ Fb W w.heap.size 0 0 0 0 /\ Fb W (w.heap.size + 1) 1 0 0 1 := by
 subst hW
 refine ⟨((Below.refl _ _).alloc (Nat.le_refl _) _).alloc (by simp) _, Blk.alloc (Blk.new w _ _) _, ?_⟩
 have := Blk.new (w.alloc (.cells #[.int .i64 0, .int .i64 0, .int .i64 0, .int .i64 0] 153)) 153 #[.int .i64 1, .int .i64 0, .int .i64 0, .int .i64 1]
 simpa [Fb] using this
theorem simulate_any (x y : Nat) (w : World) (hx : x < 4611686018427387904) (hy : y <= x) :
 Calls Tryz.prog 196 #[.int .u64 x, .int .u64 y] w fun e w' => ∃ a0 b0 a1 b1 : Int, e = .returned (.agg #[.int .i64 a0, .int .i64 b0, .int .i64 a1, .int .i64 b1]) /\ Fin' x y a0 b0 a1 b1 /\ Below w.heap.size w w' := by
 have HX := Lib.hid hx
 have HS := Lib.hid (sim_start hy)
 clear hx hy
 go_enter Tryz.func196, Tryz.ntmps196
 go_wp2
 generalize hW : World.alloc (World.alloc w _) _ = W
 have HW := Lib.hid (sim_boxes w W hW)
 clear hW
 generalize hr : w.heap.size = r at *
 have HR := Lib.hid hr
 clear hr
 go_loopw [0, 1] (fun av bv wr => ∃ (a b : Nat) (a0 b0 a1 b1 : Int), av = .int .u64 a /\ bv = .int .u64 b /\ Hid (Sim x y a b a0 b0 a1 b1) /\ Hid ((a0 = 1 /\ b0 = 0 /\ a1 = 0 /\ b1 = 1) \/ (b0 ≠ 0 /\ Coll a b b0 b1)) /\ Hid (Fb wr r 0 0 0 0) /\ Hid (Fb wr (r + 1) a0 b0 a1 b1) /\ Hid (Below r w wr)) (fun _ bv _ => (intOf bv).toNat)
 case atStart => exact ⟨x, y, 1, 0, 0, 1, rfl, rfl, HS.out, .inl ⟨rfl, rfl, rfl, rfl⟩, HW.out.2.1, HW.out.2.2, HW.out.1⟩
 case round =>
  obtain ⟨a, b, a0, b0, a1, b1, rfl, rfl, HSim, HC, H0, H1, HB⟩ := hrel
  by_cases hb0 : b = 0
  . subst hb0
    have e0 : (((0 : Nat) : Int) != 0) = false := by simp
    have k0 := H0.out.c0
    have k1 := H0.out.c1
    have k2 := H0.out.c2
    have k3 := H0.out.c3
    have kf0 := H0.out.f 0
    have kf1 := H0.out.f 1
    have kf2 := H0.out.f 2
    have kf3 := H0.out.f 3
    have m0 := H1.out.c0
    have m1 := H1.out.c1
    have m2 := H1.out.c2
    have m3 := H1.out.c3
    have mf0 := H1.out.f 0
    have mf1 := H1.out.f 1
    have mf2 := H1.out.f 2
    have mf3 := H1.out.f 3
    go_wp2
    exact bodyPost_ret (v := .agg #[.int .i64 a0, .int .i64 b0, .int .i64 a1, .int .i64 b1]) (by simp [results, Tryz.results196, go_sem, k0, k1, k2, k3]) rfl
     ⟨a0, b0, a1, b1, rfl, HC.out.elim .inl (fun h => .inr ⟨a, 0, HSim.out, h⟩), by rw [HR.out]; exact below_four HB.out (Nat.le_refl _) _ _ _ _⟩
  . have e0 : ((b : Int) != 0) = true := by rw [bne_iff_ne]; omega
    have e1 : ((b : Int) == 0) = false := by rw [beq_eq_false_iff_ne]; omega
    have hbp : 0 < b := by omega
    have hbd := sim_bd HSim.out HX.out hbp
    have q0 : 0 <= (a : Int) / (b : Int) := Int.ediv_nonneg (by omega) (by omega)
    have q1 : (a : Int) / (b : Int) < 4611686018427387904 := by
     rw [<- Int.natCast_ediv]
     have := Nat.div_le_self a b
     omega
    have HBd := Lib.hid hbd
    clear hbd
    go_wp2_with fail
    go_quiet (fail)
    have em : (a : Int) % (b : Int) = ((a % b : Nat) : Int) := (Int.natCast_emod a b).symm
    have ed : (a : Int) / (b : Int) = ((a / b : Nat) : Int) := (Int.natCast_ediv a b).symm
    rw [em, ed]
    have H0' := Lib.hid (show Fb (wr.drewN nq) r 0 0 0 0 from H0.out)
    have H1' := Lib.hid (show Fb (wr.drewN nq) (r + 1) a0 b0 a1 b1 from H1.out)
    have HB' := Lib.hid (below_drewN HB.out nq)
    clear H0 H1 HB
    generalize wr.drewN nq = V at *
    have H0 := H0'
    have H1 := H1'
    have HB := HB'
    clear H0' H1' HB'
    rw [ed] at q0 q1
    have HN := Lib.hid (sim_next HSim.out hbp)
    have HP := Lib.hid (sim_bd2 HSim.out HX.out hbp)
    have Hm := Lib.hid (Nat.mod_lt a hbp)
    clear em ed
    generalize a / b = k at *
    generalize a % b = c at *
    have n0 := HN.out.1
    have p0 : -4611686018427387904 < (k : Int) * a1 := by have := HP.out.1; omega
    have p1 : (k : Int) * a1 < 4611686018427387904 := by have := HP.out.1; omega
    have p2 : -4611686018427387904 < (k : Int) * b1 := by have := HP.out.2; omega
    have p3 : (k : Int) * b1 < 4611686018427387904 := by have := HP.out.2; omega
    have r0 : -4611686018427387904 < a0 /\ a0 < 4611686018427387904 /\ -4611686018427387904 < b0 /\ b0 < 4611686018427387904 /\ -4611686018427387904 < b1 /\ b1 < 4611686018427387904 := by have := HBd.out; omega
    obtain ⟨r1, r2, r3, r4, r5, r6⟩ := r0
    clear n0
    have k0 := H0.out.c0
    have k1 := H0.out.c1
    have k2 := H0.out.c2
    have k3 := H0.out.c3
    have kf0 := H0.out.f 0
    have kf1 := H0.out.f 1
    have kf2 := H0.out.f 2
    have kf3 := H0.out.f 3
    have m0 := H1.out.c0
    have m1 := H1.out.c1
    have m2 := H1.out.c2
    have m3 := H1.out.c3
    have mf0 := H1.out.f 0
    have mf1 := H1.out.f 1
    have mf2 := H1.out.f 2
    have mf3 := H1.out.f 3
    go_wp2_with fail
    clear k0 k1 k2 k3 kf0 kf1 kf2 kf3 m0 m1 m2 m3 mf0 mf1 mf2 mf3
    generalize hna : a0 - (k : Int) * a1 = na at *
    generalize hnb : b0 - (k : Int) * b1 = nb at *
    have s1 : -9223372036854775807 <= nb /\ nb <= 9223372036854775807 := by omega
    have s2 : nb.natAbs <= 9223372036854775807 := by omega
    have s3 : b1.natAbs <= 4611686018427387904 := by omega
    have s4 : -9223372036854775807 <= b1 /\ b1 <= 9223372036854775807 := by omega
    have HNA := Lib.hid (And.intro hna hnb)
    clear hna hnb p0 p1 p2 p3
    generalize hU : World.alloc V _ = U
    have G0 := Lib.hid (show Fb U r 0 0 0 0 by rw [<- hU]; exact Blk.alloc H0.out _)
    have G1 := Lib.hid (show Fb U (r + 1) a0 b0 a1 b1 by rw [<- hU]; exact Blk.alloc H1.out _)
    have GN := Lib.hid (show Fb U V.heap.size a1 b1 na nb by rw [<- hU]; exact Blk.new V _ _)
    have GB := Lib.hid (show Below r w U by rw [<- hU]; exact HB.out.alloc (by have := HB.out.size; have := HR.out; omega) _)
    have GL := Lib.hid H1.out.lt
    clear hU H0 H1 HB
    generalize V.heap.size = t at *
    have H0 := G0
    have H1 := G1
    clear G0 G1
    have v1 := GN.out.c1
    have v3 := GN.out.c3
    go_quiet ((go_at_call 210; exact Calls.quiet_of_same (distance_any _ _ (by omega) (by omega))))
    generalize hX : World.drewN U _ = X
    have K0 := Lib.hid (show Fb X r 0 0 0 0 by rw [<- hX]; exact H0.out)
    have K1 := Lib.hid (show Fb X (r + 1) a0 b0 a1 b1 by rw [<- hX]; exact H1.out)
    have KN := Lib.hid (show Fb X t a1 b1 na nb by rw [<- hX]; exact GN.out)
    have KB := Lib.hid (show Below r w X by rw [<- hX]; exact below_drewN GB.out _)
    clear hX H0 H1 GN GB v1 v3
    have H0 := K0
    have H1 := K1
    have GN := KN
    clear K0 K1 KN
    have v1 := GN.out.c1
    have v3 := GN.out.c3
    have hcb : (c : Int) <= (b : Int) := by have := Hm.out; omega
    have v0 := GN.out.c0
    have v2 := GN.out.c2
    have k0 := H0.out.c0
    have k1 := H0.out.c1
    have k2 := H0.out.c2
    have k3 := H0.out.c3
    have kf0 := H0.out.f 0
    have kf1 := H0.out.f 1
    have kf2 := H0.out.f 2
    have kf3 := H0.out.f 3
    have m0 := H1.out.c0
    have m1 := H1.out.c1
    have m2 := H1.out.c2
    have m3 := H1.out.c3
    have mf0 := H1.out.f 0
    have mf1 := H1.out.f 1
    have mf2 := H1.out.f 2
    have mf3 := H1.out.f 3
    by_cases ht1 : c < nb.natAbs
    . have t1 : (c : Int) < ((nb.natAbs : Nat) : Int) := by omega
      go_wp2
      exact bodyPost_ret (v := .agg #[.int .i64 a0, .int .i64 b0, .int .i64 a1, .int .i64 b1]) (by simp [results, Tryz.results196, go_sem, k0, k1, k2, k3]) rfl
       ⟨a0, b0, a1, b1, rfl, HC.out.elim .inl (fun h => .inr ⟨a, b, HSim.out, h⟩), by rw [HR.out]; exact below_four KB.out (Nat.le_refl _) _ _ _ _⟩
    . have t1 : ((nb.natAbs : Nat) : Int) <= (c : Int) := by omega
      by_cases ht2 : b - c < b1.natAbs + nb.natAbs
      . have t2 : (b : Int) - (c : Int) < ((b1.natAbs : Nat) : Int) + ((nb.natAbs : Nat) : Int) := by omega
        go_wp2
        exact bodyPost_ret (v := .agg #[.int .i64 a0, .int .i64 b0, .int .i64 a1, .int .i64 b1]) (by simp [results, Tryz.results196, go_sem, k0, k1, k2, k3]) rfl
         ⟨a0, b0, a1, b1, rfl, HC.out.elim .inl (fun h => .inr ⟨a, b, HSim.out, h⟩), by rw [HR.out]; exact below_four KB.out (Nat.le_refl _) _ _ _ _⟩
      . obtain ⟨m, hm⟩ : ∃ m : Nat, ((b1.natAbs : Nat) : Int) + ((nb.natAbs : Nat) : Int) = (m : Int) := ⟨b1.natAbs + nb.natAbs, by omega⟩
        obtain ⟨d, hd⟩ : ∃ d : Nat, (b : Int) - (c : Int) = (d : Int) := ⟨b - c, by omega⟩
        have t2 : decide (d < m) = false := by rw [decide_eq_false_iff_not]; omega
        have w1 : IntKind.u64.wrap (((b1.natAbs : Nat) : Int) + ((nb.natAbs : Nat) : Int)) = (m : Int) := by rw [hm]; exact IntWalk.u64_in _ (by omega)
        have w2 : IntKind.u64.wrap ((b : Int) - (c : Int)) = (d : Int) := by rw [hd]; exact IntWalk.u64_in _ (by have := HBd.out; omega)
        clear q0 q1 r1 r2 r3 r4 r5 r6 s1 s2 s3 s4 hcb hm hd
        go_wp2
        refine ⟨⟨b, c, a1, b1, na, nb, rfl, rfl, ?_, .inr ⟨HN.out.2, ?_⟩, H0.out.aside (by omega) _ _ _ _, H1.out.stored _ _ _ _, below_four KB.out (by omega) _ _ _ _⟩, ?_⟩
        . exact HN.out.1
        . exact ⟨Nat.le_of_not_lt ht1, Nat.le_of_not_lt ht2⟩
        . simp only [intOf, Int.toNat_natCast]; exact Hm.out
end Go.Proofs.YtmncfbfepdbioaaGreatDoor
namespace Go.Proofs.YtmncfbfepdbioaaGreatDoor
open Go.RowKit
theorem win_bits {a b c t N : Nat} (ha : a < 4294967296) (hb : b < 4294967296) (ht : t < 32) (e : N = (a + 4294967296 * b) / 2 ^ t + c * 2 ^ (64 - t)) (hN : N < 4611686018427387904) :
 bits .or .u64 (bits .or .u64 (a : Int) (IntKind.u64.wrap ((b : Int) * 4294967296)) / 2 ^ t) (IntKind.u64.wrap ((c : Int) * 2 ^ (64 - t))) = (N : Int) := by
 rw [IntWalk.u64_in ((b : Int) * 4294967296) (by omega), or_shift' a b ha hb]
 have e1 : ((c : Int) * 2 ^ (64 - t)) = ((c * 2 ^ (64 - t) : Nat) : Int) := by rw [Int.natCast_mul, Int.natCast_pow]; rfl
 have e2 : (((a + 4294967296 * b : Nat) : Int) / 2 ^ t) = (((a + 4294967296 * b) / 2 ^ t : Nat) : Int) := by rw [Int.natCast_ediv, Int.natCast_pow]; rfl
 have hX : (a + 4294967296 * b) / 2 ^ t < 2 ^ (64 - t) := by
  apply Nat.div_lt_of_lt_mul
  rw [<- Nat.pow_add, show t + (64 - t) = 64 by omega, show (2 : Nat) ^ 64 = 18446744073709551616 by decide]
  omega
 have ho := Nat.two_pow_add_eq_or_of_lt hX c
 rw [e1, e2]
 rw [Nat.mul_comm c] at e ⊢
 generalize (a + 4294967296 * b) / 2 ^ t = X at *
 generalize 2 ^ (64 - t) * c = Y at *
 rw [IntWalk.u64_in _ (by omega), u64_or_nat X Y (by omega) (by omega), Nat.or_comm, <- ho, e, Nat.add_comm]
def wl (xs : List Nat) (l k j : Nat) : Nat := if j < k then lim xs (l + j) else 0
def Wb (w : World) (r : Nat) (x y z : Nat) : Prop := Blk w r 167 #[.int .u64 x, .int .u64 y, .int .u64 z]
theorem window_any (A : Option Addr) (n c l t f : Nat) (xs : List Nat) (w : World) (h : Sl w w.heap.size A n c xs) (hl : (f : Int) / 32 = (l : Int)) (ht : (f : Int) % 32 = (t : Int)) (hf : f <= 100000000) (hN : val xs < 2 ^ (32 * l + t + 62)) :
 Calls Tryz.prog 197 #[.slice A n c, .int .i64 (f : Int)] w fun e w' => e = .returned (.int .u64 (val xs / 2 ^ f : Nat)) /\ Below w.heap.size w w' := by
 have hcap := h.cap
 have hreach := h.reach
 have hcr := h.capr
 have HF := Lib.hid (show f = 32 * l + t /\ t < 32 by omega)
 have HN := Lib.hid hN
 have hl9 : l <= 100000000 := by omega
 clear hN
 have HT := Lib.hid ht
 clear ht
 go_enter Tryz.func197, Tryz.ntmps197
 go_wp2
 generalize hW : World.alloc w _ = W
 have HW := Lib.hid (show Wb W w.heap.size (wl xs l 0 0) (wl xs l 0 1) (wl xs l 0 2) /\ Below w.heap.size w W from by
  rw [<- hW]; exact ⟨Blk.new w _ _, (Below.refl _ _).alloc (Nat.le_refl _) _⟩)
 clear hW
 generalize hr : w.heap.size = r at *
 have HR := Lib.hid hr
 clear hr
 go_loopw [9] (fun iv wr => ∃ k : Nat, k <= 3 /\ iv = .int .i64 k /\ Hid (Wb wr r (wl xs l k 0) (wl xs l k 1) (wl xs l k 2)) /\ Hid (Below r w wr)) (fun iv _ => 3 - (intOf iv).toNat)
 case atStart => exact ⟨0, by omega, rfl, HW.out.1, HW.out.2⟩
 case round =>
  obtain ⟨k, hk, rfl, Hb, HB⟩ := hrel
  by_cases hk3 : (k : Int) < 3
  . have hc0 : wr.cell? ⟨r, k, none⟩ = some (.int .u64 (wl xs l k k : Nat)) := by
     rw [Blk.cell Hb.out k]
     obtain rfl | rfl | rfl : k = 0 \/ k = 1 \/ k = 2 := by omega
     all_goals rfl
    have hf0 := Blk.frozen Hb.out k
    obtain ⟨p, hp⟩ : ∃ p : Nat, (l : Int) + (k : Int) = (p : Int) := ⟨l + k, by omega⟩
    have Hp := Lib.hid (show p = l + k by omega)
    by_cases hkn : p < n
    . obtain ⟨ad, rfl, hadb, hc1⟩ := (h.below HB.out).cell hkn
      have x1 := h.ok.lim p
      go_wp2
      refine ⟨⟨k + 1, by omega, by go_num, ?_, HB.out.setCell (Nat.le_refl _) _⟩, by simp [intOf]; omega⟩
      have := Blk.set_ Hb.out k (.int .u64 (lim xs p : Nat))
      rw [Hp.out] at this ⊢
      obtain rfl | rfl | rfl : k = 0 \/ k = 1 \/ k = 2 := by omega
      all_goals exact this
    . have Z := Lib.hid (lim_past (xs := xs) (k := p) (by rw [h.len]; omega))
      go_wp2
      refine ⟨⟨k + 1, by omega, by go_num, ?_, HB.out⟩, by simp [intOf]; omega⟩
      have e : ∀ j, wl xs l (k + 1) j = wl xs l k j := fun j => by
       unfold wl
       by_cases h1 : j < k
       . rw [if_pos h1, if_pos (by omega)]
       . rw [if_neg h1]
         by_cases h2 : j = k
         . rw [if_pos (by omega), h2, <- Hp.out, Z.out]
         . rw [if_neg (by omega)]
      rw [e, e, e]
      exact Hb.out
  . obtain rfl : k = 3 := by omega
    clear hk3
    have m0 : wr.cell? ⟨r, 0, none⟩ = some (.int .u64 (lim xs l : Nat)) := by rw [Blk.cell Hb.out 0]; rfl
    have m1 : wr.cell? ⟨r, 1, none⟩ = some (.int .u64 (lim xs (l + 1) : Nat)) := by rw [Blk.cell Hb.out 1]; rfl
    have m2 : wr.cell? ⟨r, 2, none⟩ = some (.int .u64 (lim xs (l + 2) : Nat)) := by rw [Blk.cell Hb.out 2]; rfl
    have ht := HT.out
    go_wp2_with fail
    go_quiet (fail)
    go_wp2
    go_ret
    refine ⟨ret_int ?_, ?_⟩
    . have V := win_val HF.out.2 HN.out
      rw [lim_digit h.ok l, lim_digit h.ok (l + 1), lim_digit h.ok (l + 2), HF.out.1]
      exact win_bits (Nat.mod_lt _ (by decide)) (Nat.mod_lt _ (by decide)) HF.out.2 V.1 V.2
    . rw [HR.out]; exact below_drewN HB.out nq
end Go.Proofs.YtmncfbfepdbioaaGreatDoor
namespace Go.Proofs.YtmncfbfepdbioaaGreatDoor
open Go.RowKit
structure Ap (w wr : World) (r g g' B : Nat) (a0 b0 a1 b1 : Int) (zs ys zr yr : List Nat) (k : Nat) (d e : Int) : Prop where
 rz : Row wr g zr
 ry : Row wr g' yr
 oz : Ok zr
 oy : Ok yr
 sz : Same zs zr 0 k
 sy : Same ys yr 0 k
 vz : ((wv zr 0 k : Nat) : Int) + (4294967296 ^ k : Nat) * d = a0 * ((wv zs 0 k : Nat) : Int) + b0 * ((wv ys 0 k : Nat) : Int)
 vy : ((wv yr 0 k : Nat) : Int) + (4294967296 ^ k : Nat) * e = a1 * ((wv zs 0 k : Nat) : Int) + b1 * ((wv ys 0 k : Nat) : Int)
 fb : Fb wr r a0 b0 a1 b1
 be : Below B w wr
theorem Ap.drewN {w wr : World} {r g g' B : Nat} {a0 b0 a1 b1 : Int} {zs ys zr yr : List Nat} {k : Nat} {d e : Int} (h : Ap w wr r g g' B a0 b0 a1 b1 zs ys zr yr k d e) (q : Nat) : Ap w (wr.drewN q) r g g' B a0 b0 a1 b1 zs ys zr yr k d e :=
 ⟨h.rz, h.ry, h.oz, h.oy, h.sz, h.sy, h.vz, h.vy, h.fb, below_drewN h.be q⟩
theorem Fb.far {w : World} {r : Nat} {a0 b0 a1 b1 : Int} (h : Fb w r a0 b0 a1 b1) {p : Addr} (hp : r ≠ p.block) (u : Value) : Fb (w.setCell p u) r a0 b0 a1 b1 := Blk.far h hp u
theorem Ap.step {w wr : World} {r g g' B : Nat} {a0 b0 a1 b1 : Int} {zs ys zr yr : List Nat} {k x y : Nat} {d e s t : Int} (h : Ap w wr r g g' B a0 b0 a1 b1 zs ys zr yr k d e) (h1 : k < zr.length) (h2 : k < yr.length)
 (hx : lim zs k = x) (hy : lim ys k = y) (hne : g ≠ g') (hr : r ≠ g /\ r ≠ g') (hB : B <= g) (hB' : B <= g') (hs : d + (a0 * (x : Int) + b0 * (y : Int)) = s) (ht : e + (a1 * (x : Int) + b1 * (y : Int)) = t) :
 Ap w ((wr.setCell ⟨g, k, none⟩ (.int .u32 (s % 4294967296))).setCell ⟨g', k, none⟩ (.int .u32 (t % 4294967296))) r g g' B a0 b0 a1 b1 zs ys (zr.set k (s % 4294967296).toNat) (yr.set k (t % 4294967296).toNat) (k + 1) (s / 4294967296) (t / 4294967296) := by
 have R1 := ap_rel h1 h.sz h.oz h.vz s hs
 have R2 := ap_rel h2 h.sy h.oy h.vy t ht
 have e1 : s % 4294967296 = (((s % 4294967296).toNat : Nat) : Int) := by omega
 have e2 : t % 4294967296 = (((t % 4294967296).toNat : Nat) : Int) := by omega
 have f1 : wv zs 0 (k + 1) = wv zs 0 k + 4294967296 ^ k * x := by rw [wv_succ, Nat.zero_add, hx]
 have f2 : wv ys 0 (k + 1) = wv ys 0 k + 4294967296 ^ k * y := by rw [wv_succ, Nat.zero_add, hy]
 rw [<- f1, <- f2] at R1 R2
 generalize hS : (s % 4294967296).toNat = S at *
 generalize hT : (t % 4294967296).toNat = T at *
 rw [e1, e2]
 exact ⟨(h.rz.set k S).far hne _, (h.ry.far (p := ⟨g, k, none⟩) hne.symm _).set k T, R1.2.1, R2.2.1, R1.1, R2.1, R1.2.2, R2.2.2, (h.fb.far (p := ⟨g, k, none⟩) hr.1 _).far hr.2 _, (h.be.setCell hB _).setCell hB' _⟩
theorem apply_any (a0 b0 a1 b1 : Int) (g g' n c m c' B A' B' : Nat) (zs ys : List Nat) (w : World) (hr : Row w g zs) (hr' : Row w g' ys) (hne : g ≠ g') (oz : Ok zs) (oy : Ok ys) (hmn : m <= n) (hn : n <= zs.length) (hm : m <= ys.length) (hc : n <= c) (hc' : m <= c')
 (hcr : c <= 35184372088832) (hcr' : c' <= 35184372088832)
 (hB : B <= g) (hB' : B <= g') (hs : (a0.natAbs < 2147483648 /\ b0.natAbs < 2147483648 /\ a1.natAbs < 2147483648 /\ b1.natAbs < 2147483648) /\ ((0 <= a0 /\ b0 <= 0) \/ (a0 <= 0 /\ 0 <= b0)) /\ ((0 <= a1 /\ b1 <= 0) \/ (a1 <= 0 /\ 0 <= b1)))
 (eA : a0 * ((val (zs.take n) : Nat) : Int) + b0 * ((val (ys.take m) : Nat) : Int) = A') (eB : a1 * ((val (zs.take n) : Nat) : Int) + b1 * ((val (ys.take m) : Nat) : Int) = B') (lA : A' < 4294967296 ^ m) (lB : B' < 4294967296 ^ m) :
 Calls Tryz.prog 198 #[.agg #[.int .i64 a0, .int .i64 b0, .int .i64 a1, .int .i64 b1], .slice (some ⟨g, 0, none⟩) n c, .slice (some ⟨g', 0, none⟩) m c'] w fun e w' => ∃ (k j : Nat) (zs' ys' : List Nat),
  e = .returned (.tuple #[.slice (some ⟨g, 0, none⟩) k c, .slice (some ⟨g', 0, none⟩) j c']) /\ Row w' g zs' /\ Row w' g' ys' /\ Ok zs' /\ Ok ys' /\ zs'.length = zs.length /\ ys'.length = ys.length /\ k <= m /\ j <= m ∧
  Nz (zs'.take k) /\ Nz (ys'.take j) /\ val (zs'.take k) = A' /\ val (ys'.take j) = B' /\ Below B w w' := by
 have HA := Lib.hid (And.intro eA eB)
 have HL := Lib.hid (And.intro lA lB)
 have HS := Lib.hid hs
 clear eA eB lA lB hs
 have hz1 := hr.lt
 have hz2 := hr'.lt
 go_enter Tryz.func198, Tryz.ntmps198
 go_wp2
 generalize hW : World.alloc w _ = W
 have HW := Lib.hid (show Fb W w.heap.size a0 b0 a1 b1 /\ Row W g zs /\ Row W g' ys /\ Below B w W from by
  rw [<- hW]; exact ⟨Blk.new w _ _, hr.alloc _, hr'.alloc _, (Below.refl _ _).alloc (by omega) _⟩)
 clear hW
 have Hne : w.heap.size ≠ g /\ w.heap.size ≠ g' := by omega
 generalize hrr : w.heap.size = r at *
 clear hrr
 go_loopw [8, 9, 15] (fun p q iv wr => ∃ (k : Nat) (d e : Int) (zr yr : List Nat), k <= m /\ p = .int .i64 d /\ q = .int .i64 e /\ iv = .int .i64 k /\ Hid (-2147483648 <= d /\ d <= 2147483647 /\ -2147483648 <= e /\ e <= 2147483647) /\ Hid (Ap w wr r g g' B a0 b0 a1 b1 zs ys zr yr k d e)) (fun _ _ iv _ => m - (intOf iv).toNat)
 case atStart =>
  refine ⟨0, 0, 0, zs, ys, by omega, rfl, rfl, rfl, ⟨by omega, by omega, by omega, by omega⟩, ⟨HW.out.2.1, HW.out.2.2.1, oz, oy, Same.refl _ _ _, Same.refl _ _ _, ?_, ?_, HW.out.1, HW.out.2.2.2⟩⟩
  . simp [wv]
  . simp [wv]
 case round =>
  obtain ⟨k, d, e, zr, yr, hk, rfl, rfl, rfl, Hd, HP⟩ := hrel
  by_cases hkm : k < m
  . have l1 : k < zr.length := by have := HP.out.sz.1; omega
    have l2 : k < yr.length := by have := HP.out.sy.1; omega
    have hc1 := HP.out.rz.cell l1
    have hc2 := HP.out.ry.cell l2
    have x1 := HP.out.oz.lim k
    have y1 := HP.out.oy.lim k
    have X := HP.out.sz.2 k (.inr (Nat.le_refl _))
    have Y := HP.out.sy.2 k (.inr (Nat.le_refl _))
    rw [X] at hc1 x1
    rw [Y] at hc2 y1
    clear X Y
    generalize hx : lim zs k = x at *
    generalize hy : lim ys k = y at *
    have HXY := Lib.hid (And.intro hx hy)
    clear hx hy
    have i1 : (k : Int) < (n : Int) := by omega
    go_wp2_with fail
    go_quiet (fail)
    have HP' := Lib.hid (HP.out.drewN nq)
    clear hc1 hc2 HP
    generalize wr.drewN nq = V at *
    have hc1 : V.cell? ⟨g, k, none⟩ = some (.int .u32 (x : Int)) := by rw [HP'.out.rz.cell l1, HP'.out.sz.2 k (.inr (Nat.le_refl _)), HXY.out.1]
    have hc2 : V.cell? ⟨g', k, none⟩ = some (.int .u32 (y : Int)) := by rw [HP'.out.ry.cell l2, HP'.out.sy.2 k (.inr (Nat.le_refl _)), HXY.out.2]
    have f1 := HP'.out.rz.free k
    have f2 := HP'.out.ry.free k
    have m0 := HP'.out.fb.c0
    have m1 := HP'.out.fb.c1
    have m2 := HP'.out.fb.c2
    have m3 := HP'.out.fb.c3
    obtain ⟨p1, p2, p3, p4, p5, p6⟩ := row_bd HS.out.1.1 HS.out.1.2.1 HS.out.2.1 x1 y1
    obtain ⟨q1, q2, q3, q4, q5, q6⟩ := row_bd HS.out.1.2.2.1 HS.out.1.2.2.2 HS.out.2.2 x1 y1
    obtain ⟨s, hs⟩ : ∃ s : Int, d + (a0 * (x : Int) + b0 * (y : Int)) = s := ⟨_, rfl⟩
    obtain ⟨t, ht⟩ : ∃ t : Int, e + (a1 * (x : Int) + b1 * (y : Int)) = t := ⟨_, rfl⟩
    have s1 : -9223372036854775808 <= s /\ s <= 9223372036854775807 := by have := Hd.out; omega
    have t1 : -9223372036854775808 <= t /\ t <= 9223372036854775807 := by have := Hd.out; omega
    have n1 := Hne.1
    have n2 := Hne.2
    have HN := Lib.hid (HP'.out.step l1 l2 (k := k) HXY.out.1 HXY.out.2 hne ⟨Hne.1, Hne.2⟩ hB hB' hs ht)
    have hne' := hne.symm
    go_wp2
    exact ⟨⟨k + 1, _, _, _, _, by omega, rfl, rfl, by go_num, ⟨by omega, by omega, by omega, by omega⟩, HN.out⟩, by simp [intOf]; omega⟩
  . obtain rfl : k = m := by omega
    have hlz : k <= zr.length := by have := HP.out.sz.1; omega
    have hly : k <= yr.length := by have := HP.out.sy.1; omega
    have hz3 := HP.out.rz.lt
    have hy3 := HP.out.ry.lt
    have hsz := HP.out.rz.sl (B := wr.heap.size) (n := k) (c := c) hz3 0 (by omega) (by omega) hcr HP.out.oz
    have hsy := HP.out.ry.sl (B := wr.heap.size) (n := k) (c := c') hy3 0 (by omega) hc' hcr' HP.out.oy
    rw [List.drop_zero] at hsz hsy
    have Y : val (ys.take k) = wv ys 0 k := (wv_val ys k).symm
    have E1 := Lib.hid (ap_end HP.out.oz hmn HL.out.1 (by rw [<- Y]; exact HA.out.1) HP.out.vz)
    have E2 := Lib.hid (ap_end HP.out.oy hmn HL.out.2 (by rw [<- Y]; exact HA.out.2) HP.out.vy)
    clear Y
    go_wp2_with fail
    refine (trim_any _ _ _ _ (zr.take k) wr hsz).mono ?_
    rintro e w3 ⟨⟨k1, hk1, rfl, hnz1, hv1⟩, rfl⟩
    have HV1 := Lib.hid hv1
    clear hv1
    go_wp2_with fail
    refine (trim_any _ _ _ _ (yr.take k) wr hsy).mono ?_
    rintro e w3 ⟨⟨k2, hk2, rfl, hnz2, hv2⟩, rfl⟩
    have HV2 := Lib.hid hv2
    clear hv2
    go_wp2
    go_ret2
    have t1 : (zr.take k).take k1 = zr.take k1 := by rw [List.take_take, Nat.min_eq_left hk1]
    have t2 : (yr.take k).take k2 = yr.take k2 := by rw [List.take_take, Nat.min_eq_left hk2]
    have v1 := HV1.out
    have v2 := HV2.out
    rw [t1] at v1 hnz1
    rw [t2] at v2 hnz2
    exact ⟨k1, k2, zr, yr, rfl, HP.out.rz, HP.out.ry, HP.out.oz, HP.out.oy, HP.out.sz.1, HP.out.sy.1, hk1, hk2, hnz1, hnz2, by rw [v1, <- wv_val, E1.out], by rw [v2, <- wv_val, E2.out], HP.out.be⟩
end Go.Proofs.YtmncfbfepdbioaaGreatDoor
namespace Go.Proofs.YtmncfbfepdbioaaGreatDoor
open Go.RowKit
def OwnS (B : Nat) (w : World) (A : Option Addr) (n c : Nat) (xs : List Nat) : Prop := Sl w w.heap.size A n c xs ∧
 (0 < n -> ∃ g zs, A = some ⟨g, 0, none⟩ /\ B <= g /\ Row w g zs /\ Ok zs /\ n <= zs.length /\ n <= c /\ c <= 35184372088832 /\ xs = zs.take n)
theorem OwnS.mono {B B' : Nat} {w : World} {A : Option Addr} {n c : Nat} {xs : List Nat} (h : OwnS B w A n c xs) (hB : B' <= B) : OwnS B' w A n c xs :=
 ⟨h.1, fun hn => by
  obtain ⟨g, zs, h1, h2, h3⟩ := h.2 hn
  exact ⟨g, zs, h1, Nat.le_trans hB h2, h3⟩⟩
theorem OwnS.on {B : Nat} {w w' : World} {A : Option Addr} {n c : Nat} {xs : List Nat} (h : OwnS B w A n c xs) (hb : Below w.heap.size w w') : OwnS B w' A n c xs :=
 ⟨h.1.on hb, fun hn => by
  obtain ⟨g, zs, h1, h2, h3, h4⟩ := h.2 hn
  exact ⟨g, zs, h1, h2, h3.below hb h3.lt, h4⟩⟩
def RetOwn (N : Nat) (w : World) (e : Ending) (w' : World) : Prop := ∃ A n c xs, e = .returned (.slice A n c) /\ OwnS w.heap.size w' A n c xs /\ Nz xs /\ val xs = N /\ Below w.heap.size w w'
def RetNum2o (N M : Nat) (w : World) (e : Ending) (w' : World) : Prop := ∃ A n c xs A' n' c' ys, e = .returned (.tuple #[.slice A n c, .slice A' n' c']) /\ Sl w' w'.heap.size A n c xs /\ Nz xs /\ val xs = N ∧
 OwnS w.heap.size w' A' n' c' ys /\ Nz ys /\ val ys = M /\ Below w.heap.size w w'
theorem shiftRight_own (A : Option Addr) (n c s l t : Nat) (xs : List Nat) (w : World) (h : Sl w w.heap.size A n c xs) (hs : s <= 1000000) (hl : (s : Int) / 32 = (l : Int)) (ht : (s : Int) % 32 = (t : Int)) :
 Calls Tryz.prog 202 #[.slice A n c, .int .i64 (s : Int)] w (RetOwn (val xs / 2 ^ s) w) := by
 have hcap := h.cap
 have hreach := h.reach
 have hcr := h.capr
 have Hst := Lib.hid (show s = 32 * l + t /\ t < 32 by omega)
 by_cases hln : l < n
 . have hne : ¬ c = l := by omega
   go_enter Tryz.func202, Tryz.ntmps202
   go_wp2_with fail
   have hsl := h.from_ (k := l) (by omega)
   rw [if_neg hne] at hsl
   have HL := Lib.hid hsl.len
   refine (clone_any _ _ _ _ _ _ hsl (Nat.le_refl _)).mono ?_
   rintro e w1 ⟨rfl, hrow, hb1⟩
   have Hrow0 := Lib.hid hrow
   have Hb1 := Lib.hid hb1
   clear hrow hb1
   have hmn : n - l <= n := by omega
   have Hend := Lib.hid (fun zr hlen hdig => shr_end (s := s) (l := l) (t := t) (zr := zr) h.ok (by rw [h.len]; exact hln) Hst.out.1 hlen hdig)
   rw [h.len] at Hend
   generalize hm : n - l = m at *
   generalize hys : xs.drop l = ys at *
   clear hm hys
   go_wp2
   go_loopw [24] (fun iv wr => ∃ (k : Nat) (zr : List Nat), k <= m /\ iv = .int .i64 k /\ Hid (zr.length = m) /\ Hid (Row wr w.heap.size zr) /\ Hid (Ok zr) /\ Hid (∀ i, i < k -> lim zr i = val ys / 2 ^ t / 4294967296 ^ i % 4294967296) ∧
    Hid (∀ i, k <= i -> lim zr i = lim ys i) /\ Hid (Below w.heap.size w wr)) (fun iv _ => m - (intOf iv).toNat)
   case atStart => exact ⟨0, ys, by omega, rfl, HL.out, Hrow0.out, hsl.ok, (fun i hi => absurd hi (by omega)), (fun _ _ => rfl), Hb1.out⟩
   case round =>
    obtain ⟨k, zr, hk, rfl, Hlen, Hrw, Hok, Hdone, Hrest, Hb⟩ := hrel
    by_cases hkm : k < m
    . have hc1 := Hrw.out.cell (i := k) (by rw [Hlen.out]; exact hkm)
      have hf1 := Hrw.out.free k
      have x1 := Hok.out.lim k
      by_cases hk1 : k + 1 < m
      . have hc2 := Hrw.out.cell (i := k + 1) (by rw [Hlen.out]; exact hk1)
        have x2 := Hok.out.lim (k + 1)
        have R := Lib.hid (shr_rel (m := m) hsl.ok (show t <= 32 by have := Hst.out.2; omega) hkm Hlen Hrw Hok Hdone Hrest Hb _ rfl)
        go_wp2
        rw [or_shift' (lim zr k) (lim zr (k + 1)) x1 x2, shr_cast]
        exact ⟨⟨k + 1, _, by omega, by go_num, R.out⟩, by simp [intOf]; omega⟩
      . have Z := Lib.hid (lim_past (xs := zr) (k := k + 1) (by rw [Hlen.out]; omega))
        have R := Lib.hid (shr_rel (m := m) hsl.ok (show t <= 32 by have := Hst.out.2; omega) hkm Hlen Hrw Hok Hdone Hrest Hb (lim zr k) (by rw [Z.out]; omega))
        go_wp2
        rw [shr_cast]
        exact ⟨⟨k + 1, _, by omega, by go_num, R.out⟩, by simp [intOf]; omega⟩
    . obtain rfl : k = m := by omega
      have hz := Hrw.out.lt
      have hsz := Hrw.out.sl (B := wr.heap.size) (n := k) (c := k) hz 0 (by rw [Hlen.out]; omega) (Nat.le_refl _) (by omega) Hok.out
      rw [List.drop_zero, List.take_of_length_le (by rw [Hlen.out]; omega)] at hsz
      have He := Lib.hid (Hend.out zr Hlen.out Hdone.out)
      go_wp2_with fail
      refine (trim_any _ _ _ _ zr wr hsz).mono ?_
      rintro e w3 ⟨⟨j, hj, rfl, hnz, hv⟩, rfl⟩
      have HV := Lib.hid hv
      clear hv
      go_wp2
      go_ret
      exact ⟨_, _, _, _, rfl, ⟨hsz.to hj, fun _ => ⟨_, zr, rfl, Nat.le_refl _, Hrw.out, Hok.out, by rw [Hlen.out]; exact hj, hj, by omega, rfl⟩⟩, hnz, by rw [HV.out]; exact He.out, Hb.out⟩
 . go_enter Tryz.func202, Tryz.ntmps202
   have Hz := Lib.hid (show val xs / 2 ^ s = 0 by
    refine Nat.div_eq_of_lt (Nat.lt_of_lt_of_le (val_lt h.ok) ?_)
    rw [show (4294967296 : Nat) = 2 ^ 32 by decide, <- Nat.pow_mul, h.len]
    exact Nat.pow_le_pow_right (by decide) (by have := Hst.out; omega))
   go_wp2
   rw [Hz.out]
   go_ret
   exact ⟨none, 0, 0, [], rfl, ⟨Sl.nil _ _, fun h => absurd h (by omega)⟩, Nz.nil, rfl, Below.refl _ _⟩
theorem divLong_own (A A' : Option Addr) (N c m n c' : Nat) (xs ys : List Nat) (w : World) (hn : n = m + 2) (h : Sl w w.heap.size A N c xs) (h' : Sl w w.heap.size A' n c' ys) (hy : Nz ys) (hN : n <= N) (hN9 : N <= 1000000) :
 Calls Tryz.prog 175 #[.slice A N c, .slice A' n c'] w (RetNum2o (val xs / val ys) (val xs % val ys) w) := by
 have hcap' := h'.cap
 have hcr' := h'.capr
 have hlx := h.len
 have hly := h'.len
 have ht := h'.ok.lim (m + 1)
 have hyne : ys ≠ [] := by rintro rfl; simp at hly; omega
 have ht0 : lim ys (m + 1) ≠ 0 := by
  have := (nz_iff hyne).1 hy
  rwa [hly, show n - 1 = m + 1 by omega] at this
 have hb1 := nbits_limb ht
 have hb2 := nbits_pos ht0
 obtain ⟨s, hs⟩ : ∃ s, s + nbits (lim ys (m + 1)) = 32 := ⟨32 - nbits (lim ys (m + 1)), by omega⟩
 have hs31 : s < 32 := by omega
 have Hwd := Lib.hid (nbits_word (lim ys (m + 1)) (by omega))
 obtain ⟨ad, rfl, hadb, y1⟩ := h'.cell (k := m + 1) (by omega)
 have Hs := Lib.hid hs
 have HM := Lib.hid (And.intro hlx (And.intro hly hn))
 have i1 : (n : Int) - 1 = ((m + 1 : Nat) : Int) := by omega
 obtain ⟨m1, hm1⟩ : ∃ m1, m1 = m + 1 := ⟨_, rfl⟩
 rw [<- hm1] at y1 i1 ht Hwd
 have Hm1 := Lib.hid hm1
 have i2 : (m1 : Int) < (n : Int) := by omega
 clear hlx hly hs hn hm1 ht0 hb1 hb2
 go_enter Tryz.func175, Tryz.ntmps175
 go_wp2_with fail
 refine (Tryz.bits_LeadingZeros32 _ _ (by omega) (by omega)).mono ?_
 rintro e w' ⟨rfl, rfl⟩
 rw [show ((lim ys m1 : Nat) : Int).toNat = lim ys m1 by omega, Hwd.out, show (32 : Int) - (nbits (lim ys m1) : Int) = (s : Int) by rw [Hm1.out]; have := Hs.out; omega]
 clear y1
 have hl0 : (s : Int) / 32 = ((0 : Nat) : Int) := by omega
 have hl1 : (s : Int) % 32 = (s : Int) := by omega
 have HL := Lib.hid (And.intro hl0 hl1)
 clear hl0 hl1
 have hn9 : n <= 1000000 := by omega
 go_wp2_with fail
 refine (shiftLeft_any (some ad) n c' s 0 s ys w' h' hn9 (by omega) HL.out.1 HL.out.2).mono ?_
 rintro e w1 ⟨A1, n1, c1, ds, rfl, hsd, hxd, hvd, hbn1⟩
 have hnl : n1 = n := by
  have := norm_len h'.ok hy (m := m + 1) (by rw [HM.out.2.1]; exact HM.out.2.2) hsd.ok hxd Hs.out hvd
  rw [hsd.len] at this
  rw [this]; exact HM.out.2.2.symm
 subst hnl
 have HD := Lib.hid (And.intro hvd hxd)
 clear hvd hxd
 have hsx := h.on hbn1
 have hmk := make_any ((N : Int) + 1) (N + 1) (by omega) (by omega)
 have Hr0 := Lib.hid (Row.made w1 (N + 1))
 have hb2 := fresh_below w1 (.cells (zrow (N + 1)) 44)
 have hsx2 := hsx.on hb2
 have hsd2 := hsd.alloc (Nat.le_refl _) (.cells (zrow (N + 1)) 44)
 have HB2 := Lib.hid (below_chain hbn1 hbn1.size hb2)
 clear hb2 hsx
 go_wp2_with fail
 refine (shiftLeft_any A N c s 0 s xs _ hsx2 hN9 (by omega) HL.out.1 HL.out.2).mono ?_
 rintro e w2 ⟨A2, n2, c2, us', rfl, hsu, hxu, hvu, hbn2⟩
 have hlen2 : us'.length <= N + 1 := by
  refine length_le hxu ?_
  rw [hvu, Nat.pow_succ]
  have a := val_lt h.ok
  rw [HM.out.1] at a
  have b : 2 ^ s <= 2 ^ 32 := Nat.pow_le_pow_right (by decide) (by omega)
  rw [show (2 : Nat) ^ 32 = 4294967296 by decide] at b
  exact Nat.lt_of_lt_of_le (Nat.mul_lt_mul_of_pos_right a (Nat.pow_pos (by decide))) (Nat.mul_le_mul_left _ b)
 have htk : us'.take (N + 1) = us' := List.take_of_length_le hlen2
 have E2 := Lib.hid (And.intro htk (And.intro hvu hlen2))
 have hg1 : w1.heap.size < (w1.alloc (.cells (zrow (N + 1)) 44)).heap.size := by simp
 have hr2 : Row w2 w1.heap.size (List.replicate (N + 1) 0) := Hr0.out.below hbn2 hg1
 have hsd3 := hsd2.below (hbn2.mono (Nat.le_of_lt hg1))
 have HB3 := Lib.hid (below_chain HB2.out (by have := HB2.out.size; omega) hbn2)
 have hz2 := hr2.lt
 clear htk hvu hlen2 hbn2 hsd2 hsx2 hg1
 obtain ⟨L, hL⟩ : ∃ L, L + n1 = N + 1 := ⟨N + 1 - n1, by omega⟩
 have i3 : (N : Int) - (n1 : Int) + 1 = (L : Int) := by omega
 have hmk2 := make_any (L : Int) L rfl (by omega)
 have HLL := Lib.hid hL
 clear hL
 go_wp2_with (with_reducible refine copy_us rfl (.tmp 26) (.tmp 29) rfl w1.heap.size 0 (N + 1) (N + 1) n2 c2 w2.heap.size A2 us' _ rfl rfl hr2 hsu (by rw [List.length_replicate]; omega) ?_; intro w3 hw hb3)
 rw [E2.out.1] at hw
 have Hr3 := Lib.hid hw
 have hz3 := hw.lt
 have Hsd3 := Lib.hid (hsd3.below (hb3.mono (Nat.le_refl _)))
 have HB4 := Lib.hid (HB3.out.trans (hb3.mono hbn1.size))
 clear hw hb3 hr2 hsd3
 go_wp2
 have Hq0 := Lib.hid (Row.made w3 L)
 have HB5 := Lib.hid (HB4.out.alloc (by have := HB4.out.size; omega) (.cells (zrow L) 44))
 have Hne : w1.heap.size ≠ w3.heap.size := by omega
 have hDp : 0 < val ds := by
  rw [HD.out.1]
  exact Nat.mul_pos (val_pos hy hyne) (Nat.pow_pos (by decide))
 have HDlt := Lib.hid (show val ds < 4294967296 ^ n1 by have := val_lt hsd.ok; rwa [hsd.len] at this)
 have HB6 : w'.heap.size <= w1.heap.size := hbn1.size
 go_loopw [11, 40] (fun _ iv wr => ∃ (k J : Nat) (zr qr : List Nat), k + J = L /\ iv = .int .i64 k /\ Hid (Dl w' wr w1.heap.size w3.heap.size w1.heap.size A1 n1 c1 ds N L (val xs * 2 ^ s) (val ds) J zr qr)) (fun _ iv _ => L - (intOf iv).toNat)
 case atStart =>
  refine ⟨0, L, _, _, by omega, rfl, ⟨?_, Hr3.out.alloc _, (ok_zeros _).over hsu.ok _, List.length_replicate, Hq0.out, ok_zeros _, fun i _ => lim_zeros _ _, ?_, ?_, Hsd3.out.alloc (by omega) _, HB5.out⟩⟩
  . rw [over_length (by rw [List.length_replicate]; have := E2.out.2.2; omega), List.length_replicate]
  . rw [val_zeros, Nat.mul_zero, Nat.add_zero, <- wv_all _ (k := N + 1) (by rw [over_length (by rw [List.length_replicate]; have := E2.out.2.2; omega), List.length_replicate]; exact Nat.le_refl _), wv_over_zeros E2.out.2.2, E2.out.2.1]
  . rw [<- wv_all _ (k := N + 1) (by rw [over_length (by rw [List.length_replicate]; have := E2.out.2.2; omega), List.length_replicate]; exact Nat.le_refl _), wv_over_zeros E2.out.2.2, E2.out.2.1, HD.out.1]
    have a := val_lt h.ok
    rw [HM.out.1] at a
    have b := val_ge hy hyne
    rw [HM.out.2.1] at b
    have := dl_start (s := s) a b (by have := HM.out.2.2; omega) hN
    rwa [show N - n1 + 1 = L by have := HLL.out; omega] at this
 case round =>
  obtain ⟨k, J, zr, qr, hkJ, rfl, HDl⟩ := hrel
  by_cases hkL : k < L
  . obtain ⟨j, rfl⟩ : ∃ j, J = j + 1 := ⟨J - 1, by omega⟩
    have i4 : (L : Int) - 1 - (k : Int) = (j : Int) := by omega
    have i5 : (j : Int) <= (j : Int) + (n1 : Int) + 1 := by omega
    have i6 : (j : Int) + (n1 : Int) + 1 <= (N : Int) + 1 := by have := HLL.out; omega
    have i7 : ((j : Int) + (n1 : Int) + 1).toNat = j + n1 + 1 := by omega
    have i8 : (j : Int) < (L : Int) := by omega
    have i9 : (0 : Int) <= (j : Int) := by omega
    have hne : ¬ N + 1 = j := by have := HLL.out; omega
    have HkJ := Lib.hid hkJ
    clear hkJ
    have Hwin := Lib.hid (dl_window (n := n1) (r := N - j - n1) (by rw [HDl.out.lz]; have := HLL.out; have := HkJ.out; omega) HDl.out.lt)
    go_wp2_with fail
    refine (takeDigit_raw w1.heap.size j _ w1.heap.size m m1 n1 _ _ _ zr ds wr Hm1.out HM.out.2.2 (by have := HM.out.2.2; omega) HDl.out.rz (by rw [HDl.out.lz]; have := HLL.out; have := HkJ.out; omega) HDl.out.oz (by have := HLL.out; have := HkJ.out; omega) HDl.out.sl (Nat.le_refl _) HD.out.2 (by rw [show j + n1 + 1 - j = n1 + 1 by omega]; exact Hwin.out)).mono ?_
    rintro e w4 ⟨zs', q, rfl, hq, hq9, hr4, ho4, hs4, hv4, hg4⟩
    rw [show j + n1 + 1 - j = n1 + 1 by omega] at hq hs4 hv4
    have HX := Lib.hid (And.intro hq (And.intro hs4 hv4))
    clear hq hs4 hv4
    have hq4 : Row w4 w3.heap.size qr := HDl.out.rq.grown hg4 (by simpa using Hne.symm)
    have c1 := hq4.cell (i := j) (by rw [HDl.out.lq]; have := HkJ.out; omega)
    have f1 := hq4.free j
    go_wp2
    have st := dl_step (n := n1) (r := N - j - n1) (by rw [HDl.out.lz]; have := HLL.out; have := HkJ.out; omega) HDlt.out hDp HX.out.2.1 HX.out.1 HX.out.2.2 ho4 HDl.out.sum HDl.out.lt (by rw [HDl.out.lq]; have := HkJ.out; omega) HDl.out.low
    have hz4 := hr4.lt
    have hzw := HDl.out.rz.lt
    refine ⟨⟨k + 1, j, zs', qr.set j q, by have := HkJ.out; omega, by go_num, ?_⟩, by simp [intOf]; omega⟩
    exact ⟨by rw [HX.out.2.1.1]; exact HDl.out.lz, hr4.far Hne _, ho4, by rw [List.length_set]; exact HDl.out.lq, hq4.set j q, HDl.out.oq.set j hq9, st.2.2, st.1, st.2.1, (HDl.out.sl.grown hg4 (Nat.le_of_lt hzw) (Nat.le_refl _)).setCell (by simp; omega) _, (below_grown HDl.out.bel hg4 HB6 (by omega)).setCell (by simp; omega) _⟩
  . obtain rfl : J = 0 := by omega
    have hR := HDl.out.lt
    rw [Nat.pow_zero, Nat.mul_one] at hR
    have hsum := HDl.out.sum
    rw [HD.out.1] at hR hsum
    have HE := Lib.hid (dl_end hsum hR)
    clear hR hsum
    have hz1 := HDl.out.rz.lt
    have hz2 := HDl.out.rq.lt
    have hsq := HDl.out.rq.sl (B := wr.heap.size) (n := L) (c := L) hz2 0 (by rw [HDl.out.lq]; omega) (Nat.le_refl _) (by omega) HDl.out.oq
    rw [List.drop_zero, List.take_of_length_le (by rw [HDl.out.lq]; omega)] at hsq
    have hsz := HDl.out.rz.sl (B := wr.heap.size) (n := N + 1) (c := N + 1) hz1 0 (by rw [HDl.out.lz]; omega) (Nat.le_refl _) (by omega) HDl.out.oz
    rw [List.drop_zero, List.take_of_length_le (by rw [HDl.out.lz]; omega)] at hsz
    go_wp2_with fail
    refine (trim_any _ _ _ _ qr wr hsq).mono ?_
    rintro e w5 ⟨⟨j1, hj1, rfl, hnz1, hv1⟩, rfl⟩
    have HV1 := Lib.hid hv1
    clear hv1
    go_wp2_with fail
    refine (trim_any _ _ _ _ zr wr hsz).mono ?_
    rintro e w5 ⟨⟨j2, hj2, rfl, hnz2, hv2⟩, rfl⟩
    have HV2 := Lib.hid hv2
    clear hv2
    go_wp2_with fail
    refine (shiftRight_own _ j2 _ s 0 s (zr.take j2) wr (hsz.to hj2) (by omega) HL.out.1 HL.out.2).mono ?_
    rintro e w6 ⟨A6, n6, c6, xs6, rfl, hs6, hx6, hv6, hbn6⟩
    have HV6 := Lib.hid hv6
    clear hv6
    go_wp2
    go_ret2
    exact ⟨_, _, _, _, A6, n6, c6, xs6, rfl, (hsq.to hj1).on hbn6, hnz1, by rw [HV1.out, HE.out.1], hs6.mono HDl.out.bel.size, hx6, by rw [HV6.out, HV2.out, HE.out.2], below_chain HDl.out.bel HDl.out.bel.size hbn6⟩
theorem divMag_own (xs ys : List Nat) (hx : Nz xs) (hy : Nz ys) (ox : Ok xs) (hle : val ys <= val xs) (h2 : 2 <= ys.length) (h9 : xs.length <= 1000000)  (A A' : Option Addr) (n c n' c' : Nat) (w : World) (h : Sl w w.heap.size A n c xs) (h' : Sl w w.heap.size A' n' c' ys) :
 Calls Tryz.prog 142 #[.slice A n c, .slice A' n' c'] w (RetNum2o (val xs / val ys) (val xs % val ys) w) := by
 have hnn : n' <= n := by
  rcases Nat.lt_or_ge n n' with hlt | hge
  . have := val_lt_of_length ox hy (by rw [h.len, h'.len]; exact hlt)
    omega
  . exact hge
 have hm : n' = (n' - 2) + 2 := by have := h'.len; omega
 have hn9 : n <= 1000000 := by have := h.len; omega
 have Hm := Lib.hid hm
 clear hm
 have hc : 0 <= cmpv (val xs) (val ys) := by
  rcases Nat.lt_or_ge (val ys) (val xs) with h1 | h1
  . rw [cmpv_gt h1]; omega
  . have e : val xs = val ys := by omega
    rw [e, cmpv_eq]; omega
 have i1 : ((n' : Int) == 1) = false := by rw [beq_eq_false_iff_ne]; have := Hm.out; omega
 clear hle h2
 go_enter Tryz.func142, Tryz.ntmps142
 go_wp2_with fail
 refine (cmpMag_any _ _ _ _ _ _ _ _ xs ys _ h h' hx hy).mono ?_
 rintro e w0 ⟨rfl, q, rfl⟩
 generalize cmpv (val xs) (val ys) = cv at *
 have hs : Sl (w.drewN q) (w.drewN q).heap.size A n c xs := h.drewN q
 have hs' : Sl (w.drewN q) (w.drewN q).heap.size A' n' c' ys := h'.drewN q
 go_wp2_with fail
 refine (divLong_own A A' n c (n' - 2) n' c' xs ys _ Hm.out hs hs' hy hnn hn9).mono ?_
 rintro e w1 ⟨A1, n1, c1, xs1, A2, n2, c2, xs2, rfl, h1, k1, v1, h3, k3, v3, hb⟩
 have hb2 := below_undrewN hb
 have HV := Lib.hid (And.intro v1 v3)
 clear v1 v3 hb
 go_wp2
 go_ret2
 exact ⟨A1, n1, c1, xs1, A2, n2, c2, xs2, rfl, h1, k1, HV.out.1, h3, k3, HV.out.2, hb2⟩
end Go.Proofs.YtmncfbfepdbioaaGreatDoor
namespace Go.Proofs.YtmncfbfepdbioaaGreatDoor
open Go.RowKit
theorem own_sl {B k c g : Nat} {w : World} {zs : List Nat} (h : Row w g zs) (oz : Ok zs) (hg : B <= g) (hk : k <= zs.length) (hkc : k <= c) (hc : c <= 35184372088832) : OwnS B w (some ⟨g, 0, none⟩) k c (zs.take k) := by
 refine ⟨?_, fun _ => ⟨g, zs, rfl, hg, h, oz, hk, hkc, hc, rfl⟩⟩
 have := h.sl (B := w.heap.size) (n := k) (c := c) h.lt 0 (by omega) hkc hc oz
 rwa [List.drop_zero] at this
structure Sh (Bd : Nat) (w wr : World) (A : Option Addr) (n c : Nat) (xs : List Nat) (A' : Option Addr) (n' c' : Nat) (ys : List Nat) (G L : Nat) : Prop where
 o1 : OwnS Bd wr A n c xs
 o2 : OwnS Bd wr A' n' c' ys
 ap : 0 < n' -> ∀ g g', A = some ⟨g, 0, none⟩ -> A' = some ⟨g', 0, none⟩ -> g ≠ g'
 nx : Nz xs
 ny : Nz ys
 le : val ys <= val xs
 g : Nat.gcd (val xs) (val ys) = G
 len : xs.length <= L
 be : Below Bd w wr
theorem Sh.on {Bd : Nat} {w wr w' : World} {A : Option Addr} {n c : Nat} {xs : List Nat} {A' : Option Addr} {n' c' : Nat} {ys : List Nat} {G L : Nat} (h : Sh Bd w wr A n c xs A' n' c' ys G L) (hb : Below wr.heap.size wr w') (hB : Bd <= wr.heap.size) : Sh Bd w w' A n c xs A' n' c' ys G L :=
 ⟨h.o1.on hb, h.o2.on hb, h.ap, h.nx, h.ny, h.le, h.g, h.len, below_chain h.be hB hb⟩
theorem Sh.lens {Bd : Nat} {w wr : World} {A : Option Addr} {n c : Nat} {xs : List Nat} {A' : Option Addr} {n' c' : Nat} {ys : List Nat} {G L : Nat} (h : Sh Bd w wr A n c xs A' n' c' ys G L) : n' <= n := by
 rcases Nat.lt_or_ge n n' with hlt | hge
 . have := val_lt_of_length h.o1.1.ok h.ny (by rw [h.o1.1.len, h.o2.1.len]; exact hlt)
   have := h.le
   omega
 . exact hge
theorem win_from {xs : List Nat} {n : Nat} (hx : Ok xs) (nx : Nz xs) (hl : xs.length = n) (hn : 2 < n) (h9 : n <= 1000000) : ∃ f l t : Nat, (nbits (val xs) : Int) - 62 = (f : Int) /\ (f : Int) / 32 = (l : Int) /\ (f : Int) % 32 = (t : Int) /\ f <= 100000000 /\ val xs < 2 ^ (32 * l + t + 62) := by
 obtain ⟨m, rfl⟩ : ∃ m, n = m + 1 := ⟨n - 1, by omega⟩
 have e := nbits_val hx nx hl
 have hne : xs ≠ [] := by rintro rfl; simp at hl
 have ht := (nz_iff hne).1 nx
 rw [hl, Nat.add_sub_cancel] at ht
 have hp := nbits_pos ht
 have hb := nbits_limb (hx.lim m)
 refine ⟨nbits (val xs) - 62, (nbits (val xs) - 62) / 32, (nbits (val xs) - 62) % 32, by omega, by omega, by omega, by omega, ?_⟩
 rw [show 32 * ((nbits (val xs) - 62) / 32) + (nbits (val xs) - 62) % 32 + 62 = nbits (val xs) by omega]
 exact nbits_lt _
theorem sh_div {Bd : Nat} {w V w' : World} {A A' A6 : Option Addr} {n c n' c' n6 c6 : Nat} {xs ys xs6 : List Nat} {G L : Nat} (h : Sh Bd w V A n c xs A' n' c' ys G L) (hB : Bd <= V.heap.size) (hp : 0 < n')
 (hs : OwnS V.heap.size w' A6 n6 c6 xs6) (hx : Nz xs6) (hv : val xs6 = val xs % val ys) (hb : Below V.heap.size V w') : Sh Bd w w' A' n' c' ys A6 n6 c6 xs6 G L := by
 have hyp : 0 < val ys := val_pos h.ny (by rintro rfl; have := h.o2.1.len; simp at this; omega)
 refine ⟨h.o2.on hb, hs.mono hB, fun h6 g g' e1 e2 => ?_, h.ny, hx, by rw [hv]; exact Nat.le_of_lt (Nat.mod_lt _ hyp), ?_, ?_, below_chain h.be hB hb⟩
 . obtain ⟨g1, zs1, e3, hg1, hr1, _⟩ := h.o2.2 hp
   obtain ⟨g2, zs2, e4, hg2, _⟩ := hs.2 h6
   rw [e3] at e1
   rw [e4] at e2
   injection e1 with e1; injection e1 with e1
   injection e2 with e2; injection e2 with e2
   have := hr1.lt
   omega
 . rw [hv, Nat.gcd_comm, <- Nat.gcd_rec, Nat.gcd_comm]; exact h.g
 . have := h.lens
   have := h.len
   have := h.o1.1.len
   have := h.o2.1.len
   omega
theorem win_two {N M l t f : Nat} (hl : (f : Int) / 32 = (l : Int)) (ht : (f : Int) % 32 = (t : Int)) (hN : N < 2 ^ (32 * l + t + 62)) (hle : M <= N) : N / 2 ^ f < 4611686018427387904 /\ M / 2 ^ f <= N / 2 ^ f := by
 obtain ⟨e, h⟩ : f = 32 * l + t /\ t < 32 := by omega
 have V := (win_val h hN).2
 rw [<- e] at V
 exact ⟨V, Nat.div_le_div_right hle⟩
theorem shorten_any (Bd : Nat) (A A' : Option Addr) (n c n' c' L : Nat) (xs ys : List Nat) (w : World) (hBd : Bd <= w.heap.size) (hS : Sh Bd w w A n c xs A' n' c' ys (Nat.gcd (val xs) (val ys)) L) (hL : L <= 1000000) :
 Calls Tryz.prog 172 #[.slice A n c, .slice A' n' c'] w fun e w' => ∃ (A1 : Option Addr) (n1 c1 : Nat) (xs1 : List Nat) (A2 : Option Addr) (n2 c2 : Nat) (xs2 : List Nat), e = .returned (.tuple #[.slice A1 n1 c1, .slice A2 n2 c2]) /\ n2 <= 2 ∧
  Sh Bd w w' A1 n1 c1 xs1 A2 n2 c2 xs2 (Nat.gcd (val xs) (val ys)) L := by
 have HS := Lib.hid hS
 clear hS
 generalize Nat.gcd (val xs) (val ys) = G at *
 go_enter Tryz.func172, Tryz.ntmps172
 go_wp2
 go_loopg [0, 1] (val ys) (fun v s t wr => ∃ (A : Option Addr) (n c : Nat) (xs : List Nat) (A' : Option Addr) (n' c' : Nat) (ys : List Nat), s = .slice A n c /\ t = .slice A' n' c' /\ v = val ys /\ Hid (Sh Bd w wr A n c xs A' n' c' ys G L))
 case atStart => exact ⟨A, n, c, xs, A', n', c', ys, rfl, rfl, rfl, HS.out⟩
 case round =>
  clear HS
  clear A A' n c n' c' xs ys
  obtain ⟨A, n, c, xs, A', n', c', ys, rfl, rfl, rfl, HS⟩ := hrel
  have hnn := HS.out.lens
  have hn9 : n <= 1000000 := by have := HS.out.len; rw [HS.out.o1.1.len] at this; omega
  by_cases h2 : 2 < n'
  . obtain ⟨f, l, t, hf, hl, ht, hf9, hN⟩ := win_from HS.out.o1.1.ok HS.out.nx HS.out.o1.1.len (by omega) hn9
    have HF := Lib.hid hf
    have HLT := Lib.hid (And.intro hl (And.intro ht hN))
    have HB := Lib.hid (show Bd <= wr.heap.size from Nat.le_trans hBd HS.out.be.size)
    clear hf hl ht hN
    have i1 : (2 : Int) < (n' : Int) := by omega
    go_wp2_with fail
    refine (bitsMag_any _ _ _ _ xs _ HS.out.o1.1 HS.out.nx hn9).mono ?_
    rintro e w1 ⟨rfl, rfl⟩
    have HX := Lib.hid (win_rest (val xs) f)
    have HY := Lib.hid (win_rest (val ys) f)
    have HXL := Lib.hid (win_two HLT.out.1 HLT.out.2.1 HLT.out.2.2 HS.out.le)
    generalize hx : val xs / 2 ^ f = x at *
    generalize hy : val ys / 2 ^ f = y at *
    generalize val xs % 2 ^ f = α at *
    generalize val ys % 2 ^ f = β at *
    have HXY := Lib.hid (And.intro hx hy)
    clear hx hy
    have hf := HF.out
    go_wp2_with fail
    refine (window_any A n c l t f xs _ HS.out.o1.1 HLT.out.1 HLT.out.2.1 hf9 HLT.out.2.2).mono ?_
    rintro e w2 ⟨rfl, hb2⟩
    rw [HXY.out.1]
    have HS2 := Lib.hid (HS.out.on hb2 HB.out)
    have HB2 := Lib.hid (Nat.le_trans HB.out hb2.size)
    clear HS hb2 hf
    go_wp2_with fail
    refine (window_any A' n' c' l t f ys _ HS2.out.o2.1 HLT.out.1 HLT.out.2.1 hf9 (Nat.lt_of_le_of_lt HS2.out.le HLT.out.2.2)).mono ?_
    rintro e w3 ⟨rfl, hb3⟩
    rw [HXY.out.2]
    have HS3 := Lib.hid (HS2.out.on hb3 HB2.out)
    have HB3 := Lib.hid (Nat.le_trans HB2.out hb3.size)
    clear HS2 hb3
    go_wp2_with fail
    refine (simulate_any x y _ HXL.out.1 HXL.out.2).mono ?_
    rintro e w4 ⟨a0, b0, a1, b1, rfl, hfin, hb4⟩
    have HFin := Lib.hid hfin
    have HS4 := Lib.hid (HS3.out.on hb4 HB3.out)
    have HB4 := Lib.hid (Nat.le_trans HB3.out hb4.size)
    clear HS3 hb4 hfin
    by_cases hne : b0 = 0
    . subst hne
      go_wp2_with fail
      generalize hV : World.alloc w4 _ = V
      have HS5 := Lib.hid (HS4.out.on (show Below w4.heap.size w4 V by rw [<- hV]; exact fresh_below w4 _) HB4.out)
      have HB5 := Lib.hid (show Bd <= V.heap.size by rw [<- hV]; exact Nat.le_trans HB4.out (by simp))
      clear hV HS4
      refine (divMag_own xs ys HS5.out.nx HS5.out.ny HS5.out.o1.1.ok HS5.out.le (by rw [HS5.out.o2.1.len]; omega) (by rw [HS5.out.o1.1.len]; exact hn9) _ _ _ _ _ _ _ HS5.out.o1.1 HS5.out.o2.1).mono ?_
      rintro e w6 ⟨A5, n5, c5, xs5, A6, n6, c6, xs6, rfl, hs5, hx5, hv5, hs6, hx6, hv6, hb6⟩
      have HN := Lib.hid (sh_div HS5.out HB5.out (by omega) hs6 hx6 hv6 hb6)
      have HM := Lib.hid hv6
      have hyp : 0 < val ys := val_pos HS5.out.ny (by rintro rfl; have := HS5.out.o2.1.len; simp at this; omega)
      have Hm := Lib.hid (Nat.mod_lt (val xs) hyp)
      clear hs5 hx5 hv5 hs6 hx6 hv6 hb6 hyp
      go_wp2
      go_roundg (val xs6)
      case measure => rw [HM.out]; exact Hm.out
      case rel => exact ⟨A', n', c', ys, A6, n6, c6, xs6, rfl, rfl, rfl, HN.out⟩
    . have e0 : (b0 == 0) = false := by rw [beq_eq_false_iff_ne]; exact hne
      have e1 : (b0 != 0) = true := by rw [bne_iff_ne]; exact hne
      have HNE := Lib.hid hne
      go_wp2_with fail
      generalize hV : World.alloc w4 _ = V
      have HS5 := Lib.hid (HS4.out.on (show Below w4.heap.size w4 V by rw [<- hV]; exact fresh_below w4 _) HB4.out)
      have HB5 := Lib.hid (show Bd <= V.heap.size by rw [<- hV]; exact Nat.le_trans HB4.out (by simp))
      clear hV HS4
      obtain ⟨g1, zs1, rfl, hg1, hr1, oz1, hn1, hc1, hcr1, hxs1⟩ := HS5.out.o1.2 (by omega)
      obtain ⟨g2, zs2, rfl, hg2, hr2, oz2, hn2, hc2, hcr2, hxs2⟩ := HS5.out.o2.2 (by omega)
      have hgg := HS5.out.ap (by omega) g1 g2 rfl rfl
      obtain ⟨A1, B1, eA, eB, hG, hAB, hBA⟩ := fin_apply HFin.out HNE.out HX.out.1 HY.out.1 HX.out.2 HY.out.2
      have hPB : val ys < 4294967296 ^ n' := by have := val_lt HS5.out.o2.1.ok; rwa [HS5.out.o2.1.len] at this
      refine (apply_any a0 b0 a1 b1 g1 g2 n c n' c' Bd A1 B1 zs1 zs2 _ hr1 hr2 hgg oz1 oz2 hnn hn1 hn2 hc1 hc2 hcr1 hcr2 hg1 hg2 (fin_small HFin.out HXL.out.1) (by rw [<- hxs1, <- hxs2]; exact eA) (by rw [<- hxs1, <- hxs2]; exact eB) (Nat.lt_of_le_of_lt hAB hPB) (Nat.lt_of_lt_of_le hBA (Nat.le_of_lt (Nat.lt_of_le_of_lt hAB hPB)))).mono ?_
      rintro e w6 ⟨k, j, zs', ys', rfl, hr1', hr2', oz1', oz2', hl1, hl2, hk, hj, hnz1, hnz2, hv1, hv2, hb6⟩
      have HN := Lib.hid (show Sh Bd w w6 (some ⟨g1, 0, none⟩) k c (zs'.take k) (some ⟨g2, 0, none⟩) j c' (ys'.take j) G L from
       ⟨own_sl hr1' oz1' hg1 (by omega) (by omega) hcr1, own_sl hr2' oz2' hg2 (by omega) (by omega) hcr2, fun _ g g' e1 e2 => by injection e1 with e1; injection e1 with e1; injection e2 with e2; injection e2 with e2; omega, hnz1, hnz2, by rw [hv1, hv2]; omega, by rw [hv1, hv2, hG]; exact HS5.out.g, by
        have := HS5.out.len
        have := HS5.out.o1.1.len
        rw [List.length_take]
        omega, HS5.out.be.trans hb6⟩)
      have HM := Lib.hid (show val (ys'.take j) < val ys by rw [hv2]; omega)
      clear hr1' hr2' oz1' oz2' hl1 hl2 hk hj hnz1 hnz2 hv1 hv2 hb6 hr1 hr2 oz1 oz2 hn1 hc1 hcr1 hxs1 hn2 hc2 hcr2 hxs2 eA eB hG hAB hBA hPB hgg hne
      go_wp2
      go_roundg (val (ys'.take j))
      case measure => exact HM.out
      case rel => exact ⟨_, k, c, zs'.take k, _, j, c', ys'.take j, rfl, rfl, rfl, HN.out⟩
  . have i1 : (n' : Int) <= 2 := by omega
    go_wp2
    go_ret2
    exact ⟨A, n, c, xs, A', n', c', ys, rfl, by omega, HS.out⟩
end Go.Proofs.YtmncfbfepdbioaaGreatDoor
namespace Go.Proofs.YtmncfbfepdbioaaGreatDoor
open Go.RowKit
def Gm (w wr : World) (s t : Value) (G k j : Nat) : Prop := ∃ (A : Option Addr) (n c : Nat) (xs : List Nat) (A' : Option Addr) (n' c' : Nat) (ys : List Nat), s = .slice A n c /\ t = .slice A' n' c' ∧
 Sl wr wr.heap.size A n c xs /\ Sl wr wr.heap.size A' n' c' ys /\ Nz xs /\ Nz ys /\ val ys <= val xs /\ Nat.gcd (val xs) (val ys) = G /\ n <= 1000000 /\ n' <= k /\ (n' = 0 \/ n <= j) /\ Below w.heap.size w wr
theorem row_sl {w : World} {g n : Nat} {zs : List Nat} (h : Row w g zs) (oz : Ok zs) (hn : zs.length = n) (hn9 : n <= 1000000) : Sl w w.heap.size (some ⟨g, 0, none⟩) n n zs := by
 have := h.sl (B := w.heap.size) (n := n) (c := n) h.lt 0 (by omega) (Nat.le_refl _) (by omega) oz
 rwa [List.drop_zero, List.take_of_length_le (by omega)] at this
theorem row_own {B n g : Nat} {w : World} {zs : List Nat} (h : Row w g zs) (oz : Ok zs) (hg : B <= g) (hn : zs.length = n) (hn9 : n <= 1000000) : OwnS B w (some ⟨g, 0, none⟩) n n zs := by
 have := own_sl (B := B) (k := n) (c := n) h oz hg (by omega) (Nat.le_refl _) (by omega)
 rwa [List.take_of_length_le (by omega)] at this
theorem gcdMag_all (xs ys : List Nat) (hx : Nz xs) (hy : Nz ys) (hn : xs.length <= 1000000) (hn' : ys.length <= 1000000) : GcdSpec xs ys := by
 intro A A' n c n' c' w h h'
 have l1 := h.len
 have l2 := h'.len
 generalize hG : Nat.gcd (val xs) (val ys) = G
 have HG := Lib.hid hG
 have HL := Lib.hid (And.intro (show n <= 1000000 by omega) (show n' <= 1000000 by omega))
 clear hG l1 l2 hn hn'
 go_enter Tryz.func141, Tryz.ntmps141
 go_wp2_with fail
 refine (cmpMag_any _ _ _ _ _ _ _ _ xs ys _ h h' hx hy).mono ?_
 rintro e w0 ⟨rfl, q, rfl⟩
 have hs : Sl (w.drewN q) (w.drewN q).heap.size A n c xs := h.drewN q
 have hs' : Sl (w.drewN q) (w.drewN q).heap.size A' n' c' ys := h'.drewN q
 have HB := Lib.hid (below_drewN (Below.refl w.heap.size w) q)
 clear h h'
 generalize w.drewN q = V at *
 go_upto_if 12 with (fail)
 go_cut [0, 1] (fun s t wx => Gm w wx s t G 1000000 1000000)
 case first =>
  rcases Nat.lt_or_ge (val xs) (val ys) with hlt | hge
  . have hc : cmpv (val xs) (val ys) < 0 := by rw [cmpv_lt hlt]; decide
    have HR := Lib.hid (And.intro hc (Nat.le_of_lt hlt))
    clear hlt
    go_wp2_with fail
    go_meet
    exact ⟨A', n', c', ys, A, n, c, xs, rfl, rfl, hs', hs, hy, hx, HR.out.2, by rw [Nat.gcd_comm]; exact HG.out, HL.out.2, HL.out.1, .inr HL.out.2, HB.out⟩
  . have hc : 0 <= cmpv (val xs) (val ys) := cmpv_ge hge
    have HR := Lib.hid hge
    clear hge
    go_wp2_with fail
    go_meet
    exact ⟨A, n, c, xs, A', n', c', ys, rfl, rfl, hs, hs', hx, hy, HR.out, HG.out, HL.out.1, HL.out.2, .inr HL.out.1, HB.out⟩
 case rest =>
 clear hs hs' HB HG HL hx hy
 obtain ⟨A, n, c, xs, A', n', c', ys, rfl, rfl, hs, hs', hx, hy, hle, hg, hn, hn', -, hb⟩ := hcut
 have HG := Lib.hid (And.intro hle hg)
 have HB := Lib.hid hb
 clear hle hg hb
 go_upto_if 17 with (fail)
 go_cut [0, 1] (fun s t wx => Gm w wx s t G 2 1000000)
 case first =>
  by_cases h2 : (2 : Int) < (n' : Int)
  . go_wp2_with fail
    refine (clone_any A n c _ xs _ hs (Nat.le_refl _)).mono ?_
    rintro e w1 ⟨rfl, hr1, hb1⟩
    have hs'1 := hs'.on hb1
    go_wp2_with fail
    refine (clone_any A' n' c' _ ys _ hs'1 (Nat.le_refl _)).mono ?_
    rintro e w2 ⟨rfl, hr2, hb2⟩
    have hr1' := hr1.below hb2 hr1.lt
    have l1 := hs.len
    have l2 := hs'.len
    have hz1 := hr1.lt
    have HS := Lib.hid (show Sh wc.heap.size w2 w2 (some ⟨wc.heap.size, 0, none⟩) n n xs (some ⟨w1.heap.size, 0, none⟩) n' n' ys (Nat.gcd (val xs) (val ys)) 1000000 from
     ⟨row_own hr1' hs.ok (Nat.le_refl _) l1 hn, row_own hr2 hs'.ok (Nat.le_of_lt hz1) l2 hn', fun _ g g' e1 e2 => by injection e1 with e1; injection e1 with e1; injection e2 with e2; injection e2 with e2; omega, hx, hy, HG.out.1, rfl, by omega, Below.refl _ _⟩)
    have HB2 := Lib.hid (below_chain (below_chain HB.out HB.out.size hb1) (Nat.le_trans HB.out.size hb1.size) hb2)
    have hz2 := hr1'.lt
    clear hr1 hb1 hs'1 hr2 hb2 hr1' l1 l2 hz1
    go_wp2_with fail
    refine (shorten_any wc.heap.size _ _ n n n' n' 1000000 xs ys _ (by omega) HS.out (Nat.le_refl _)).mono ?_
    rintro e w3 ⟨A1, n1, c1, xs1, A2, n2, c2, xs2, rfl, hn2, hS⟩
    have HS3 := Lib.hid hS
    clear hS HS
    have HB3 := Lib.hid (HB2.out.trans (HS3.out.be.mono HB.out.size))
    go_wp2_with fail
    go_meet
    exact ⟨A1, n1, c1, xs1, A2, n2, c2, xs2, rfl, rfl, HS3.out.o1.1, HS3.out.o2.1, HS3.out.nx, HS3.out.ny, HS3.out.le, by rw [HS3.out.g]; exact HG.out.2, by have := HS3.out.len; have := HS3.out.o1.1.len; omega, hn2, .inr (by have := HS3.out.len; have := HS3.out.o1.1.len; omega), HB3.out⟩
  . have h2' : (n' : Int) <= 2 := by omega
    go_wp2_with fail
    go_meet
    exact ⟨A, n, c, xs, A', n', c', ys, rfl, rfl, hs, hs', hx, hy, HG.out.1, HG.out.2, hn, by omega, .inr hn, HB.out⟩
 case rest =>
 clear hs hs' HB HG hx hy hn hn'
 clear A A' n c n' c' xs ys
 obtain ⟨A, n, c, xs, A', n', c', ys, rfl, rfl, hs, hs', hx, hy, hle, hg, hn, hn', -, hb⟩ := hcut
 have HG := Lib.hid (And.intro hle hg)
 have HB := Lib.hid hb
 clear hle hg hb
 by_cases h0 : n' = 0
 . subst h0
   have e : ys = [] := List.eq_nil_of_length_eq_zero hs'.len
   have HE := Lib.hid (show val xs = G by rw [<- HG.out.2, e]; exact (Nat.gcd_zero_right _).symm)
   clear e
   go_wp2_with fail
   refine (clone_any A n c _ xs _ hs (Nat.le_refl _)).mono ?_
   rintro e wz ⟨rfl, hrz, hbz⟩
   have HZ := Lib.hid (And.intro (row_sl hrz hs.ok hs.len hn) (below_chain HB.out HB.out.size hbz))
   clear hrz hbz
   go_wp2
   go_ret
   exact ⟨_, _, _, xs, rfl, HZ.out.1, hx, HE.out, HZ.out.2⟩
 . have i0 : (0 : Int) < (n' : Int) := by omega
   have i1 : ((n' : Int) == 0) = false := by rw [beq_eq_false_iff_ne]; omega
   by_cases h2 : 2 < n
   . have i2 : (2 : Int) < (n : Int) := by omega
     go_wp2_with fail
     refine (divSpec_all xs ys hx hy hs.ok (by rintro rfl; have := hs'.len; simp at this; omega) (by rw [hs.len]; exact hn) _ _ _ _ _ _ _ hs hs').mono ?_
     rintro e w5 ⟨A5, n5, c5, xs5, A6, n6, c6, xs6, rfl, hs5, hx5, hv5, hs6, hx6, hv6, hb6⟩
     have hs7 := hs'.on hb6
     have HB6 := Lib.hid (below_chain HB.out HB.out.size hb6)
     have HM := Lib.hid (show Nat.gcd (val ys) (val xs6) = G by rw [hv6, Nat.gcd_comm, <- Nat.gcd_rec, Nat.gcd_comm]; exact HG.out.2)
     have hyp : 0 < val ys := val_pos hy (by rintro rfl; have := hs'.len; simp at this; omega)
     have hn6 : n6 <= 2 := by
      have a : val xs6 < 4294967296 ^ n' := by
       rw [hv6]
       have := val_lt hs'.ok
       rw [hs'.len] at this
       exact Nat.lt_trans (Nat.mod_lt _ hyp) this
      have := length_le hx6 a
      have := hs6.len
      omega
     clear hs5 hx5 hv5 hv6 hb6 hyp hs hs' HB
     have hn'9 : n' <= 1000000 := by omega
     by_cases h6 : n6 = 0
     . subst h6
       have e : xs6 = [] := List.eq_nil_of_length_eq_zero hs6.len
       have HE := Lib.hid (show val ys = G by rw [<- HM.out, e]; exact (Nat.gcd_zero_right _).symm)
       clear e
       go_wp2_with fail
       refine (clone_any A' n' c' _ ys _ hs7 (Nat.le_refl _)).mono ?_
       rintro e wz ⟨rfl, hrz, hbz⟩
       have HZ := Lib.hid (And.intro (row_sl hrz hs7.ok hs7.len hn'9) (below_chain HB6.out HB6.out.size hbz))
       clear hrz hbz
       go_wp2
       go_ret
       exact ⟨_, _, _, ys, rfl, HZ.out.1, hy, HE.out, HZ.out.2⟩
     . have j1 : ((n6 : Int) == 0) = false := by rw [beq_eq_false_iff_ne]; omega
       have Hx := Lib.hid (two_limbs hs7 hn')
       have Hy := Lib.hid (two_limbs hs6 hn6)
       go_wp2_with fail
       refine (wordOf_any _ _ _ _ ys _ hs7 hn').mono ?_
       rintro e wy ⟨rfl, rfl⟩
       go_wp2_with fail
       refine (wordOf_any _ _ _ _ xs6 _ hs6 hn6).mono ?_
       rintro e wy ⟨rfl, rfl⟩
       go_wp2
       go_loopw [7, 8] (fun xv yv wr => ∃ x y : Nat, xv = .int .u64 x /\ yv = .int .u64 y /\ x < 18446744073709551616 /\ y < 18446744073709551616 /\ Hid (Below w.heap.size w wr) /\ Hid (Nat.gcd x y = G)) (fun _ yv _ => (intOf yv).toNat)
       case atStart => exact ⟨val ys, val xs6, rfl, rfl, Hx.out, Hy.out, HB6.out, HM.out⟩
       case round =>
        obtain ⟨x, y, rfl, rfl, hxl, hyl, HBr, Hgcd⟩ := hrel
        by_cases hy0 : y = 0
        . subst hy0
          have Hg := Lib.hid (show x = G by rw [<- Hgcd.out, Nat.gcd_zero_right])
          have e0 : (((0 : Nat) : Int) != 0) = false := by simp
          go_wp2_with fail
          refine (ofWord_any (x : Int) _ (by omega) (by omega)).mono ?_
          rintro e w3 ⟨A3, n3, c3, xs3, rfl, hs3, hx3, hv3, hb3⟩
          have hb := below_chain HBr.out HBr.out.size hb3
          have Hv := Lib.hid hv3
          clear hv3 hb3
          go_wp2
          go_ret
          exact ⟨A3, n3, c3, xs3, rfl, hs3, hx3, by rw [Hv.out, <- Hg.out]; omega, hb⟩
        . have e0 : ((y : Int) != 0) = true := by rw [bne_iff_ne]; omega
          have e1 : ((y : Int) == 0) = false := by rw [beq_eq_false_iff_ne]; omega
          have hyp : 0 < (y : Int) := by omega
          have Hm := Lib.hid (Nat.mod_lt x (show 0 < y by omega))
          have Hg := Lib.hid (show Nat.gcd y (x % y) = G by rw [<- Hgcd.out, Nat.gcd_comm x y, Nat.gcd_rec y x, Nat.gcd_comm])
          go_wp2_with fail
          go_quiet (fail)
          go_wp2
          have em : (x : Int) % (y : Int) = ((x % y : Nat) : Int) := (Int.natCast_emod x y).symm
          rw [em]
          have Hlt := Hm.out
          exact ⟨⟨y, x % y, rfl, rfl, hyl, by omega, below_drewN HBr.out _, Hg.out⟩, by simp only [intOf, Int.toNat_natCast]; exact Hlt⟩
   . have i2 : (n : Int) <= 2 := by omega
     have hn2 : n <= 2 := by omega
     have Hx := Lib.hid (two_limbs hs hn2)
     have Hy := Lib.hid (two_limbs hs' hn')
     go_wp2_with fail
     refine (wordOf_any _ _ _ _ xs _ hs hn2).mono ?_
     rintro e wy ⟨rfl, rfl⟩
     go_wp2_with fail
     refine (wordOf_any _ _ _ _ ys _ hs' hn').mono ?_
     rintro e wy ⟨rfl, rfl⟩
     go_wp2
     go_loopw [7, 8] (fun xv yv wr => ∃ x y : Nat, xv = .int .u64 x /\ yv = .int .u64 y /\ x < 18446744073709551616 /\ y < 18446744073709551616 /\ Hid (Below w.heap.size w wr) /\ Hid (Nat.gcd x y = G)) (fun _ yv _ => (intOf yv).toNat)
     case atStart => exact ⟨val xs, val ys, rfl, rfl, Hx.out, Hy.out, HB.out, HG.out.2⟩
     case round =>
      obtain ⟨x, y, rfl, rfl, hxl, hyl, HBr, Hgcd⟩ := hrel
      by_cases hy0 : y = 0
      . subst hy0
        have Hg := Lib.hid (show x = G by rw [<- Hgcd.out, Nat.gcd_zero_right])
        have e0 : (((0 : Nat) : Int) != 0) = false := by simp
        go_wp2_with fail
        refine (ofWord_any (x : Int) _ (by omega) (by omega)).mono ?_
        rintro e w3 ⟨A3, n3, c3, xs3, rfl, hs3, hx3, hv3, hb3⟩
        have hb := below_chain HBr.out HBr.out.size hb3
        have Hv := Lib.hid hv3
        clear hv3 hb3
        go_wp2
        go_ret
        exact ⟨A3, n3, c3, xs3, rfl, hs3, hx3, by rw [Hv.out, <- Hg.out]; omega, hb⟩
      . have e0 : ((y : Int) != 0) = true := by rw [bne_iff_ne]; omega
        have e1 : ((y : Int) == 0) = false := by rw [beq_eq_false_iff_ne]; omega
        have hyp : 0 < (y : Int) := by omega
        have Hm := Lib.hid (Nat.mod_lt x (show 0 < y by omega))
        have Hg := Lib.hid (show Nat.gcd y (x % y) = G by rw [<- Hgcd.out, Nat.gcd_comm x y, Nat.gcd_rec y x, Nat.gcd_comm])
        go_wp2_with fail
        go_quiet (fail)
        go_wp2
        have em : (x : Int) % (y : Int) = ((x % y : Nat) : Int) := (Int.natCast_emod x y).symm
        rw [em]
        have Hlt := Hm.out
        exact ⟨⟨y, x % y, rfl, rfl, hyl, by omega, below_drewN HBr.out _, Hg.out⟩, by simp only [intOf, Int.toNat_natCast]; exact Hlt⟩
end Go.Proofs.YtmncfbfepdbioaaGreatDoor
namespace Go.Proofs.YtmncfbfepdbioaaGreatDoor
open Go.RowKit
def gcdZ (a b : Int) : Int := ((Nat.gcd a.natAbs b.natAbs : Nat) : Int)
theorem gcdZ_lt {a b : Int} (ha : a.natAbs < BIG) (hb : b.natAbs < BIG) : (gcdZ a b).natAbs < BIG := by
 unfold gcdZ
 rw [Int.natAbs_natCast]
 rcases Nat.eq_zero_or_pos a.natAbs with e | e
 . rw [e, Nat.gcd_zero_left]; exact hb
 . exact Nat.lt_of_le_of_lt (Nat.gcd_le_left _ e) ha
theorem gcd_ov {neg neg' : Bool} {A A' : Option Addr} {n c n' c' : Nat} {xs ys : List Nat} {w : World} (h : Sl w w.heap.size A n c xs) (h' : Sl w w.heap.size A' n' c' ys) :
 Calls Tryz.prog 100 #[.agg #[.bool neg, .slice A n c], .agg #[.bool neg', .slice A' n' c']] w (RetIE (o2Z gcdZ (ov neg xs) (ov neg' ys)) (o2E gcdZ (ov neg xs) (ov neg' ys)) w) := by
 rcases hv : vld neg xs with _ | _
 . rw [ov_none hv]
   exact gcd_bad1 neg neg' A A' n c n' c' xs w h hv
 . rw [ov_some hv]
   rcases hv' : vld neg' ys with _ | _
   . rw [ov_none hv']
     exact gcd_bad2 neg neg' A A' n c n' c' xs ys w h h' hv hv'
   . rw [ov_some hv']
     have gx := vld_true hv
     have gy := vld_true hv'
     have bx : val xs < BIG := (big_iff h.ok gx.2.1).2 gx.1
     have by' : val ys < BIG := (big_iff h'.ok gy.2.1).2 gy.1
     have lx := gx.1
     have ly := gy.1
     have := gcd_good neg neg' A A' n c n' c' xs ys w h h' hv hv' (gcdMag_all xs ys gx.2.1 gy.2.1 (by omega) (by omega))
     have ft := fit_yes (gcdZ_lt (a := sg neg (val xs)) (b := sg neg' (val ys)) (by rw [sg_abs]; exact bx) (by rw [sg_abs]; exact by'))
     show Calls _ _ _ _ (RetIE (fitZ (gcdZ _ _)) (fitE (gcdZ _ _)) w)
     rw [ft.1, ft.2, gcdZ, sg_abs, sg_abs]
     exact this
end Go.Proofs.YtmncfbfepdbioaaGreatDoor
