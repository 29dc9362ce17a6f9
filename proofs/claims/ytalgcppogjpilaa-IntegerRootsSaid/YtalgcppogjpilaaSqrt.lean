/-
  The walk of sqrtMag: Newton's method from above.
-/
import Derived.Deep.LoopGhost
import Derived.Test.YtalgcppogjpilaaDivLong
import Derived.Test.YtalgcppogjpilaaMag
import Derived.Test.YtalgcppogjpilaaShift
namespace Go.Proofs.Ytalgcppogjpilaa
open Go.RowKit

theorem pw_less {a b : Nat} (h : a < b) : 2 ^ a < pw b := Nat.pow_lt_pow_right (by decide) h
theorem four_mul_le (a b : Nat) : 4 * (a * b) ≤ (a + b) * (a + b) := by
  rcases Nat.le_total a b with h | h
  · obtain ⟨d, rfl⟩ := Nat.exists_eq_add_of_le h
    have e1 : a * (a + d) = a * a + a * d := Nat.mul_add a a d
    have e2 : (a + (a + d)) * (a + (a + d)) = 4 * (a * a) + 4 * (a * d) + d * d := by
      simp only [Nat.mul_add, Nat.add_mul, Nat.mul_comm d a]; omega
    omega
  · obtain ⟨d, rfl⟩ := Nat.exists_eq_add_of_le h
    have e1 : (b + d) * b = b * b + b * d := by rw [Nat.add_mul, Nat.mul_comm d b]
    have e2 : (b + d + b) * (b + d + b) = 4 * (b * b) + 4 * (b * d) + d * d := by
      simp only [Nat.mul_add, Nat.add_mul, Nat.mul_comm d b]; omega
    omega
/-- One step of Newton's method stays above the root. -/
theorem newton_above {N r : Nat} (hr : 0 < r) : N < ((r + N / r) / 2 + 1) * ((r + N / r) / 2 + 1) := by
  have dm := Nat.div_add_mod N r
  have ml := Nat.mod_lt N hr
  generalize N / r = q at *
  have h1 : N < r * (q + 1) := by rw [Nat.mul_add, Nat.mul_one]; omega
  have h2 := four_mul_le r (q + 1)
  have h3 : r + (q + 1) ≤ 2 * ((r + q) / 2 + 1) := by omega
  have h4 := Nat.mul_le_mul h3 h3
  generalize (r + q) / 2 + 1 = s at *
  have e : 2 * s * (2 * s) = 4 * (s * s) := by rw [Nat.mul_mul_mul_comm]
  omega
/-- Where it does not fall any more, the root is reached. -/
theorem newton_stop {N r : Nat} (h : r ≤ (r + N / r) / 2) : r * r ≤ N := by
  have h1 : r ≤ N / r := by omega
  exact Nat.le_trans (Nat.mul_le_mul_left r h1) (Nat.mul_div_le N r)
theorem newton_pos {N r : Nat} (hN : 0 < N) (hr : 0 < r) : 0 < (r + N / r) / 2 := by
  rcases Nat.lt_or_ge r 2 with h | h
  · obtain rfl : r = 1 := by omega
    rw [Nat.div_one]; omega
  · generalize N / r = q
    omega
theorem root_uniq {N r s : Nat} (h1 : r * r ≤ N) (h2 : N < (r + 1) * (r + 1)) (h3 : s * s ≤ N) (h4 : N < (s + 1) * (s + 1)) : r = s := by
  rcases Nat.lt_trichotomy r s with h | h | h
  · have := Nat.mul_le_mul (show r + 1 ≤ s from h) (show r + 1 ≤ s from h)
    omega
  · exact h
  · have := Nat.mul_le_mul (show s + 1 ≤ r from h) (show s + 1 ≤ r from h)
    omega
theorem root_exists (N : Nat) : ∃ r, r * r ≤ N ∧ N < (r + 1) * (r + 1) := by
  induction N with
  | zero => exact ⟨0, by decide, by decide⟩
  | succ N ih =>
    obtain ⟨r, h1, h2⟩ := ih
    by_cases h : (r + 1) * (r + 1) ≤ N + 1
    · refine ⟨r + 1, h, ?_⟩
      have e : (r + 1 + 1) * (r + 1 + 1) = (r + 1) * (r + 1) + 2 * r + 3 := by
        simp only [Nat.add_mul, Nat.mul_add]; omega
      omega
    · exact ⟨r, by omega, by omega⟩
/-- The first guess is above the root. -/
theorem newton_start {N t : Nat} (h : nbits N ≤ 2 * t) : N < (2 ^ t + 1) * (2 ^ t + 1) := by
  have a : N < 2 ^ t * 2 ^ t := by
    rw [← Nat.pow_add, ← Nat.two_mul]; exact (nbits_le_iff N _).1 h
  have b := Nat.mul_le_mul (Nat.le_succ (2 ^ t)) (Nat.le_succ (2 ^ t))
  exact Nat.lt_of_lt_of_le a b

set_option maxRecDepth 20000 in
set_option maxHeartbeats 2000000 in
theorem sqrtMag_any (A : Option Addr) (n c : Nat) (xs : List Nat) (w : World) (h : Sl w w.heap.size A n c xs) (hx : Nz xs) (hn : n ≤ 128) (r : Nat) (h1 : r * r ≤ val xs) (h2 : val xs < (r + 1) * (r + 1)) :
    Calls Try.prog 73 #[.slice A n c] w (RetNum r w) := by
  by_cases h0 : n = 0
  · obtain rfl : xs = [] := List.eq_nil_of_length_eq_zero (by rw [h.len]; exact h0)
    have hr : r = 0 := by
      rcases Nat.eq_zero_or_pos r with e | e
      · exact e
      · have := Nat.mul_pos e e; rw [val_nil] at h1; omega
    subst hr
    have i0 : ((n : Int) == 0) = true := by rw [h0]; rfl
    clear h1 h2
    go_enter Try.func73, Try.ntmps73
    go_wp2
    go_ret
    exact ⟨none, 0, 0, [], rfl, Sl.nil _ _, Nz.nil, rfl, Below.refl _ _⟩
  · have i0 : ((n : Int) == 0) = false := by rw [beq_eq_false_iff_ne]; omega
    have hxne : xs ≠ [] := by rintro rfl; have := h.len; simp at this; omega
    have hN := val_pos hx hxne
    have HR := Lib.hid (And.intro h1 h2)
    have hlt : val xs < BIG := (big_iff h.ok hx).2 (by rw [h.len]; exact hn)
    have hnb : nbits (val xs) ≤ 4096 := (nbits_pw _ _).2 (by rw [← big_pw]; exact hlt)
    have Hlt := Lib.hid hlt
    have hlx := Lib.hid h.len
    clear h1 h2 h0 hlt
    obtain ⟨N, HN⟩ : ∃ N, Hid (val xs = N) := ⟨_, rfl⟩
    rw [HN.out] at hN HR hnb Hlt
    generalize hb : nbits N = nb at *
    have Hb := Lib.hid hb
    clear hb
    have j1 : ((nb : Int) + 1) / 2 = (((nb + 1) / 2 : Nat) : Int) := by omega
    obtain ⟨t, ht⟩ : ∃ t, t = (nb + 1) / 2 := ⟨_, rfl⟩
    rw [← ht] at j1
    have ht9 : t ≤ 2048 := by omega
    have ht8 : nb ≤ 2 * t := by omega
    clear ht
    have k1 : (t : Int) / 32 = ((t / 32 : Nat) : Int) := by omega
    have k2 : (t : Int) % 32 = ((t % 32 : Nat) : Int) := by omega
    have HK := Lib.hid (And.intro k1 k2)
    clear k1 k2
    have hn9 : n ≤ 1000000 := by omega
    go_enter Try.func73, Try.ntmps73
    go_wp2_with fail
    refine (ofWord_any 1 _ (by omega) (by omega)).mono ?_
    rintro e w1 ⟨A1, n1, c1, xs1, rfl, hs1, hx1, hv1, hb1⟩
    have hn1 : n1 ≤ 1000000 := by
      have e1 := length_le hx1 (n := 1) (by rw [hv1]; decide)
      have e2 := hs1.len
      omega
    have HV1 := Lib.hid hv1
    clear hv1
    have hs := h.on hb1
    go_wp2_with fail
    refine (bitsMag_any _ _ _ _ _ _ hs hx hn9).mono ?_
    rintro e w2 ⟨rfl, rfl⟩
    rw [HN.out, Hb.out]
    go_wp2_with fail
    refine (shiftLeft_any A1 n1 c1 t (t / 32) (t % 32) xs1 _ hs1 hn1 (by omega) HK.out.1 HK.out.2).mono ?_
    rintro e w3 ⟨A3, n3, c3, xs3, rfl, hs3, hx3, hv3, hb3⟩
    have HV3 := Lib.hid (show val xs3 = 2 ^ t by rw [hv3, HV1.out]; simp)
    have hsx := hs.on hb3
    have HB := Lib.hid (below_chain hb1 hb1.size hb3)
    clear hv3 hb3 hb1 hs
    have hpt : 0 < 2 ^ t := Nat.pow_pos (by decide)
    have hst := newton_start (N := N) (t := t) (by rw [Hb.out]; exact ht8)
    have hpb : 2 ^ t < BIG := by
      rw [big_pw]
      exact pw_less (show t < 4096 by omega)
    have HP := Lib.hid (And.intro hpt (And.intro hst hpb))
    clear hpt hst hpb hs1 hn1 hx1
    go_wp2
    go_loopg [3] (val xs3) (fun g s3 wr => ∃ (A : Option Addr) (n c : Nat) (zs : List Nat), s3 = .slice A n c ∧ g = val zs ∧ Hid (Sl wr wr.heap.size A n c zs) ∧ Hid (Nz zs) ∧ Hid (0 < val zs ∧ N < (val zs + 1) * (val zs + 1) ∧ val zs < BIG) ∧ Hid (Below w.heap.size w wr))
    case atStart => exact ⟨A3, n3, c3, xs3, rfl, rfl, hs3, hx3, by rw [Hid, HV3.out]; exact HP.out, HB.out⟩
    case round =>
      obtain ⟨B, m, d, zs, rfl, rfl, Hs, Hz, Hv, Hb'⟩ := hrel
      have hzne : zs ≠ [] := by rintro rfl; have := Hv.out.1; simp [val] at this
      have hzl : m ≤ 1000000 := by have := (big_iff Hs.out.ok Hz.out).1 Hv.out.2.2; have := Hs.out.len; omega
      have hsx := h.on Hb'.out
      generalize hv : val zs = v at *
      have HV := Lib.hid hv
      clear hv
      go_wp2_with fail
      refine (divSpec_all xs zs hx Hz.out h.ok hzne (by rw [hlx.out]; omega) A B n c m d wr hsx Hs.out).mono ?_
      rintro e w4 ⟨A4, n4, c4, xs4, A5, n5, c5, xs5, rfl, hs4, hx4, hv4, hs5, hx5, hv5, hb4⟩
      have HV4 := Lib.hid (show val xs4 = N / v by rw [hv4, HN.out, HV.out])
      have hn4 : n4 ≤ 1000000 := by
        have a : val xs4 < BIG := by rw [HV4.out]; exact Nat.lt_of_le_of_lt (Nat.div_le_self _ _) Hlt.out
        have := (big_iff hs4.ok hx4).1 a
        have := hs4.len
        omega
      have Hs4 := Lib.hid (Hs.out.on hb4)
      have HB4 := Lib.hid (below_chain Hb'.out Hb'.out.size hb4)
      clear hv4 hv5 hs5 hx5 hb4 hsx
      go_wp2_with fail
      refine (addMag_any _ _ _ _ _ _ _ _ _ Hs4.out hs4 hzl hn4).mono ?_
      rintro e w5 ⟨A6, n6, c6, xs6, rfl, hs6, hx6, hv6, hb5⟩
      have HV6 := Lib.hid (show val xs6 = v + N / v by rw [hv6, HV.out, HV4.out])
      have Hs5 := Lib.hid (Hs4.out.on hb5)
      have HB5 := Lib.hid (below_chain HB4.out HB4.out.size hb5)
      clear hv6 hb5 hs4
      go_wp2_with fail
      refine (shiftRight_any A6 n6 c6 1 0 1 xs6 _ hs6 (by omega) (by decide) (by decide)).mono ?_
      rintro e w6 ⟨A7, n7, c7, xs7, rfl, hs7, hx7, hv7, hb6⟩
      have HV7 := Lib.hid (show val xs7 = (v + N / v) / 2 by rw [hv7, HV6.out])
      have Hs6 := Lib.hid (Hs5.out.on hb6)
      have HB6 := Lib.hid (below_chain HB5.out HB5.out.size hb6)
      clear hv7 hb6 hs6
      go_wp2_with fail
      refine (cmpMag_any _ _ _ _ _ _ _ _ xs7 zs _ hs7 Hs6.out hx7 Hz.out).mono ?_
      rintro e w7 ⟨rfl, q, rfl⟩
      by_cases hlt : (v + N / v) / 2 < v
      · have hc : cmpv (val xs7) (val zs) = -1 := by rw [HV7.out, HV.out]; exact cmpv_lt hlt
        rw [hc]
        clear hc
        go_wp2
        go_roundg ((v + N / v) / 2)
        case measure => exact hlt
        case rel =>
          refine ⟨A7, n7, c7, xs7, rfl, HV7.out.symm, hs7.drewN q, hx7, ?_, below_drewN HB6.out q⟩
          rw [Hid, HV7.out]
          exact ⟨newton_pos hN Hv.out.1, newton_above Hv.out.1, Nat.lt_trans hlt Hv.out.2.2⟩
      · have hc : 0 ≤ cmpv (val xs7) (val zs) := by
          rw [HV7.out, HV.out]
          rcases Nat.lt_or_ge v ((v + N / v) / 2) with h1 | h1
          · rw [cmpv_gt h1]; omega
          · have e : (v + N / v) / 2 = v := by omega
            rw [e, cmpv_eq]; omega
        have hr := root_uniq HR.out.1 HR.out.2 (newton_stop (Nat.le_of_not_lt hlt)) Hv.out.2.1
        have Hr := Lib.hid hr
        clear hr hlt
        generalize cmpv (val xs7) (val zs) = cv at *
        go_wp2
        go_ret
        exact ⟨B, m, d, zs, rfl, Hs6.out.drewN q, Hz.out, by rw [HV.out, Hr.out], below_drewN HB6.out q⟩

end Go.Proofs.Ytalgcppogjpilaa
