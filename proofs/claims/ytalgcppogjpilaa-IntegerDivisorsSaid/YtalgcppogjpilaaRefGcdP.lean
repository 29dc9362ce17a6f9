/-
  RefOdd, GcdN, RefGcd, RefGcd2, RefCmp, LawGcd, merged.
-/
import Derived.Test.YtalgcppogjpilaaRefBit
import Derived.Deep.DeepCutAuto
import Derived.Test.YtalgcppogjpilaaRefMul
import Derived.Test.YtalgcppogjpilaaGcdP
import Derived.Test.YtalgcppogjpilaaShift
import Derived.Test.YtalgcppogjpilaaRefLeft
import Derived.Test.YtalgcppogjpilaaCmpZ
import Derived.Test.YtalgcppogjpilaaSmall
import Derived.Test.YtalgcppogjpilaaLawSums

namespace Go.Proofs.Ytalgcppogjpilaa
open Go.RowKit

theorem tz_bit0 {N k m i : Nat} (hN : N = 2 ^ k * m) (hi : i < k) : N / 2 ^ i % 2 = 0 := by
  obtain ⟨d, rfl⟩ : ∃ d, k = i + (d + 1) := ⟨k - i - 1, by omega⟩
  rw [hN, Nat.pow_add, Nat.mul_assoc, Nat.mul_div_cancel_left _ (Nat.pow_pos (by decide)), Nat.pow_succ, Nat.mul_comm (2 ^ d) 2, Nat.mul_assoc, Nat.mul_mod_right]
theorem tz_bit1 {N k m : Nat} (hN : N = 2 ^ k * m) (hm : m % 2 = 1) : N / 2 ^ k % 2 = 1 := by
  rw [hN, Nat.mul_div_cancel_left _ (Nat.pow_pos (by decide)), hm]

set_option maxHeartbeats 400000 in
theorem rodd_any (A : Option Addr) (n c k m : Nat) (xs : List Nat) (w : World) (h : Sl w w.heap.size A n c xs) (hx : Nz xs) (hn : n ≤ 1000000) (hk : k ≤ 900000) (hN : val xs = 2 ^ k * m) (hm : m % 2 = 1) :
    Calls Try.prog 70 #[.slice A n c] w (RetNum m w) := by
  have HN := Lib.hid hN
  have Hm := Lib.hid hm
  clear hN hm
  have H0 := Lib.hid (fun i (hi : i < k) => tz_bit0 HN.out hi)
  have H1 := Lib.hid (tz_bit1 HN.out Hm.out)
  have Hq : Hid (val xs / 2 ^ k = m) := by rw [Hid, HN.out, Nat.mul_div_cancel_left _ (Nat.pow_pos (by decide))]
  go_enter Try.func70, Try.ntmps70
  go_wp2
  go_loop [3] (fun iv => ∃ i : Nat, i ≤ k ∧ iv = .int .i64 (i : Int)) (fun iv => k + 1 - (intOf iv).toNat)
  case atStart => exact ⟨0, by omega, rfl⟩
  case round =>
    obtain ⟨i, hi, rfl⟩ := hrel
    by_cases hik : i < k
    · have C := rbit_any A n c w.heap.size i (i / 32) (i % 32) 0 xs w h (by omega) (by omega) (by omega) (H0.out i hik)
      go_wp2_with fail
      refine C.mono ?_
      clear C
      rintro e w2 ⟨rfl, rfl⟩
      go_wp2
      exact ⟨⟨i + 1, by omega, by go_num⟩, by simp [intOf]; omega⟩
    · obtain rfl : i = k := by omega
      have C := rbit_any A n c w.heap.size i (i / 32) (i % 32) 1 xs w h (by omega) (by omega) (by omega) H1.out
      go_wp2_with fail
      refine C.mono ?_
      clear C
      rintro e w2 ⟨rfl, rfl⟩
      go_wp2_with fail
      refine (rright_any A n c i xs _ h hx (by omega) hn).mono ?_
      rintro e w3 ⟨A3, n3, c3, xs3, rfl, hs3, hx3, hv3, hb3⟩
      have HV := Lib.hid hv3
      clear hv3
      go_wp2
      go_ret
      exact ⟨_, _, _, _, rfl, hs3, hx3, HV.out.trans Hq.out, hb3⟩

end Go.Proofs.Ytalgcppogjpilaa

namespace Go.Proofs.Ytalgcppogjpilaa
open Go.RowKit

theorem tz_of (N : Nat) (h : 0 < N) : ∃ k m : Nat, N = 2 ^ k * m ∧ m % 2 = 1 ∧ k < N := by
  induction N using Nat.strongRecOn with
  | _ N ih =>
    by_cases h2 : N % 2 = 1
    · exact ⟨0, N, by rw [Nat.pow_zero, Nat.one_mul], h2, h⟩
    · obtain ⟨k, m, e, o, l⟩ := ih (N / 2) (by omega) (by omega)
      refine ⟨k + 1, m, ?_, o, by omega⟩
      rw [Nat.pow_succ, Nat.mul_comm (2 ^ k) 2, Nat.mul_assoc, ← e]
      omega
theorem pow_coprime {y : Nat} (k : Nat) (hy : y % 2 = 1) : Nat.Coprime (2 ^ k) y := by
  apply Nat.Coprime.pow_left
  rw [Nat.coprime_iff_gcd_eq_one, Nat.gcd_rec, hy]
  rfl
theorem gcd_tz {k m y : Nat} (hy : y % 2 = 1) : Nat.gcd (2 ^ k * m) y = Nat.gcd m y := Nat.Coprime.gcd_mul_left_cancel m (pow_coprime k hy)
theorem gcd_sub {x y : Nat} (h : y ≤ x) : Nat.gcd (x - y) y = Nat.gcd x y := by
  have e : x = (x - y) + y := by omega
  conv => rhs; rw [e]
  rw [Nat.gcd_add_self_left]
/-- Both numbers lose what factors 2 they have in common. -/
theorem gcd_common {i j x y c : Nat} (hx : x % 2 = 1) (hy : y % 2 = 1) (hc : (i = c ∧ c ≤ j) ∨ (j = c ∧ c ≤ i)) : Nat.gcd (2 ^ i * x) (2 ^ j * y) = Nat.gcd x y * 2 ^ c := by
  rcases hc with ⟨rfl, h⟩ | ⟨rfl, h⟩
  · obtain ⟨d, rfl⟩ : ∃ d, j = i + d := ⟨j - i, by omega⟩
    rw [Nat.pow_add, Nat.mul_assoc, Nat.gcd_mul_left, Nat.gcd_comm x, gcd_tz hx, Nat.gcd_comm y, Nat.mul_comm]
  · obtain ⟨d, rfl⟩ : ∃ d, i = j + d := ⟨i - j, by omega⟩
    rw [Nat.pow_add, Nat.mul_assoc, Nat.gcd_mul_left, gcd_tz hy, Nat.mul_comm]

end Go.Proofs.Ytalgcppogjpilaa

namespace Go.Proofs.Ytalgcppogjpilaa
open Go.RowKit

set_option maxHeartbeats 1000000 in
theorem rgcd_bad1 (neg neg' : Bool) (A A' : Option Addr) (n c n' c' : Nat) (xs : List Nat) (w : World) (h : Sl w w.heap.size A n c xs) (hv : vld neg xs = false) :
    Calls Try.prog 34 #[.agg #[.bool neg, .slice A n c], .agg #[.bool neg', .slice A' n' c']] w (RetIE 0 1 w) := by
  go_enter Try.func34, Try.ntmps34
  go_wp2_with fail
  generalize hW : World.alloc (World.alloc (World.alloc w _) _) _ = W
  obtain ⟨hb, hz, b0, b1, b2⟩ := sum_boxes neg neg' A A' n c n' c' w W hW
  have hs := h.on hb
  clear hW
  refine (rvalid_any _ _ _ _ _ xs _ hs (Nat.le_refl _)).mono ?_
  rintro e w1 ⟨rfl, hb1⟩
  have b2' := b2.below hb1 (by omega)
  have k3 := b2'.c0
  have k4 := b2'.c1
  have k5 := b2'.f 0
  have k6 := b2'.f 1
  generalize hr : w.heap.size = r at *
  have HRW := Lib.hid (And.intro hb hr)
  clear hb hr
  go_wp2
  exact bodyPost_ret (v := .tuple #[.agg #[.bool false, .slice none 0 0], .int .i64 1]) (by simp [results, Try.results34, go_sem, k3, k4]) rfl
    ⟨none, 0, 0, [], rfl, Sl.nil _ _, Nz.nil, rfl, by rw [HRW.out.2]; exact below_ret (below_chain HRW.out.1 (by omega) hb1) (show r ≤ r + 1 + 1 by omega) _ _⟩

set_option maxHeartbeats 1000000 in
theorem rgcd_bad2 (neg neg' : Bool) (A A' : Option Addr) (n c n' c' : Nat) (xs ys : List Nat) (w : World) (h : Sl w w.heap.size A n c xs) (h' : Sl w w.heap.size A' n' c' ys) (hv : vld neg xs = true) (hv' : vld neg' ys = false) :
    Calls Try.prog 34 #[.agg #[.bool neg, .slice A n c], .agg #[.bool neg', .slice A' n' c']] w (RetIE 0 1 w) := by
  go_enter Try.func34, Try.ntmps34
  go_wp2_with fail
  generalize hW : World.alloc (World.alloc (World.alloc w _) _) _ = W
  obtain ⟨hb, hz, b0, b1, b2⟩ := sum_boxes neg neg' A A' n c n' c' w W hW
  have hs := h.on hb
  have hs' := h'.on hb
  clear hW
  refine (rvalid_any _ _ _ _ _ xs _ hs (Nat.le_refl _)).mono ?_
  rintro e w1 ⟨rfl, hb1⟩
  have hz1 : w.heap.size + 1 + 1 < w1.heap.size := by have := hb1.size; omega
  have b1' := b1.below hb1 (by omega)
  have b2' := b2.below hb1 (by omega)
  have q0 := b1'.c0
  have q1 := b1'.c1
  go_wp2_with fail
  refine (rvalid_any _ _ _ _ _ ys _ (hs'.on hb1) (Nat.le_refl _)).mono ?_
  rintro e w2 ⟨rfl, hb2⟩
  clear q0 q1
  have b2'' := b2'.below hb2 (by omega)
  have k3 := b2''.c0
  have k4 := b2''.c1
  have k5 := b2''.f 0
  have k6 := b2''.f 1
  generalize hr : w.heap.size = r at *
  have HRW := Lib.hid (And.intro hb hr)
  clear hb hr
  go_wp2
  exact bodyPost_ret (v := .tuple #[.agg #[.bool false, .slice none 0 0], .int .i64 1]) (by simp [results, Try.results34, go_sem, k3, k4]) rfl
    ⟨none, 0, 0, [], rfl, Sl.nil _ _, Nz.nil, rfl, by rw [HRW.out.2]; exact below_ret (below_chain (below_chain HRW.out.1 (by omega) hb1) (by omega) hb2) (show r ≤ r + 1 + 1 by omega) _ _⟩


set_option maxHeartbeats 1000000 in
theorem rgcd_zero1 (neg neg' : Bool) (A A' : Option Addr) (n c n' c' : Nat) (xs ys : List Nat) (w : World) (h : Sl w w.heap.size A n c xs) (h' : Sl w w.heap.size A' n' c' ys) (hv : vld neg xs = true) (hv' : vld neg' ys = true) (hn0 : n = 0) (v : Nat) (hv9 : val xs + val ys = v) :
    Calls Try.prog 34 #[.agg #[.bool neg, .slice A n c], .agg #[.bool neg', .slice A' n' c']] w (RetIE (fitZ (sg false v)) (fitE (sg false v)) w) := by
  have Hv9 := Lib.hid hv9
  clear hv9
  have Hg := Lib.hid (And.intro (vld_true hv) (vld_true hv'))
  have hlx := h.len
  have hly := h'.len
  have hn : n ≤ 1000000 := by have := Hg.out.1.1; omega
  have hn' : n' ≤ 1000000 := by have := Hg.out.2.1; omega
  clear hlx hly
  have i5 : ((n : Int) == 0) = true := by rw [hn0]; rfl
  clear hn0
  go_enter Try.func34, Try.ntmps34
  go_wp2_with fail
  generalize hW : World.alloc (World.alloc (World.alloc w _) _) _ = W
  obtain ⟨hb, hz, b0, b1, b2⟩ := sum_boxes neg neg' A A' n c n' c' w W hW
  have hs := h.on hb
  have hs' := h'.on hb
  clear hW
  refine (rvalid_any _ _ _ _ _ xs _ hs (Nat.le_refl _)).mono ?_
  rintro e w1 ⟨rfl, hb1⟩
  have hz1 : w.heap.size + 1 + 1 < w1.heap.size := by have := hb1.size; omega
  have b0' := b0.below hb1 (by omega)
  have b1' := b1.below hb1 (by omega)
  have b2' := b2.below hb1 (by omega)
  have hs1 := hs.on hb1
  have hs1' := hs'.on hb1
  have q0 := b1'.c0
  have q1 := b1'.c1
  go_wp2_with fail
  refine (rvalid_any _ _ _ _ _ ys _ hs1' (Nat.le_refl _)).mono ?_
  rintro e w2 ⟨rfl, hb2⟩
  clear q0 q1
  have HB := Lib.hid (below_chain (below_chain hb (by omega) hb1) (by omega) hb2)
  have b0 := b0'.below hb2 (by omega)
  have b1 := b1'.below hb2 (by omega)
  have b2 := b2'.below hb2 (by omega)
  have hs := hs1.on hb2
  have hs' := hs1'.on hb2
  clear hb1 hb2 b0' b1' b2' hs1 hs1' hb hz hz1
  generalize hr : w.heap.size = r at *
  have Hr := Lib.hid hr
  clear hr
  have k0 := b0.c0
  have k1 := b0.c1
  have He := Lib.hid (Blk.new w2 51 #[])
  have Hs := Lib.hid (hs.on (below_new w2 (.cells #[] 51)))
  have j1 := b0.lt
  go_upto_region 4 with (at_builtin; refine copy_app rfl _ _ rfl w2.heap.size n c _ _ xs rfl He.out rfl Hs.out ?_; intro A3 c3 w3 hs3 hg3)
  have D3 := below_grown (below_new w2 (.cells #[] 51)) hg3 (Nat.le_refl _) (by simp)
  clear k0 k1 j1 He Hs hg3
  have b0 := b0.below D3 b0.lt
  have b1 := b1.below D3 b1.lt
  have b2 := b2.below D3 b2.lt
  have hs' := hs'.on D3
  have HB := Lib.hid (below_chain HB.out (by have := Hr.out; have := HB.out.size; omega) D3)
  clear D3 hs
  have k0 := b1.c0
  have k1 := b1.c1
  have He := Lib.hid (Blk.new w3 51 #[])
  have Hs := Lib.hid (hs'.on (below_new w3 (.cells #[] 51)))
  have j1 := b1.lt
  go_upto_region 5 with (at_builtin; refine copy_app rfl _ _ rfl w3.heap.size n' c' _ _ ys rfl He.out rfl Hs.out ?_; intro A4 c4 w4 hs4 hg4)
  have D4 := below_grown (below_new w3 (.cells #[] 51)) hg4 (Nat.le_refl _) (by simp)
  clear k0 k1 j1 He Hs hg4
  have b0 := b0.below D4 b0.lt
  have b1 := b1.below D4 b1.lt
  have b2 := b2.below D4 b2.lt
  have hs3 := hs3.on D4
  have HB := Lib.hid (below_chain HB.out (by have := Hr.out; have := HB.out.size; omega) D4)
  clear D4 hs'
  go_wp2_with fail
  refine (rplus_any _ _ _ _ _ _ _ _ _ hs3 hs4 hn hn').mono ?_
  rintro e w5 ⟨A5, n5, c5, xs5, rfl, hs5, hx5, hv5, hb5⟩
  rw [Hv9.out] at hv5
  have b2 := b2.below hb5 b2.lt
  have HB := Lib.hid (below_chain HB.out (by have := Hr.out; have := HB.out.size; omega) hb5)
  have H5 := Lib.hid (And.intro hv5 hx5)
  clear hb5 hv5 hx5
  go_wp2_with fail
  refine (fit_any false _ _ _ _ _ hs5 H5.out.2).mono ?_
  rw [H5.out.1]
  rintro e w6 ⟨A6, n6, c6, xs6, rfl, hs6, hx6, hv6, hb6⟩
  have b2 := b2.below hb6 b2.lt
  have HB := Lib.hid (below_chain HB.out (by have := Hr.out; have := HB.out.size; omega) hb6)
  have H6 := Lib.hid hv6
  clear hb6 hv6
  have k3 := b2.c0
  have k4 := b2.c1
  have k5 := b2.f 0
  have k6 := b2.f 1
  go_wp2
  exact bodyPost_ret (v := .tuple #[.agg #[.bool (decide (fitZ (sg false v) < 0)), .slice A6 n6 c6], .int .i64 (fitE (sg false v))]) (by simp [results, Try.results34, go_sem, k3, k4]) rfl
    ⟨A6, n6, c6, xs6, rfl, hs6.ret b2 _ _, hx6, H6.out, by rw [Hr.out]; exact below_ret HB.out (show r ≤ r + 1 + 1 by omega) _ _⟩

set_option maxHeartbeats 1000000 in
theorem rgcd_zero2 (neg neg' : Bool) (A A' : Option Addr) (n c n' c' : Nat) (xs ys : List Nat) (w : World) (h : Sl w w.heap.size A n c xs) (h' : Sl w w.heap.size A' n' c' ys) (hv : vld neg xs = true) (hv' : vld neg' ys = true) (hn0 : n ≠ 0) (hn1 : n' = 0) (v : Nat) (hv9 : val xs + val ys = v) :
    Calls Try.prog 34 #[.agg #[.bool neg, .slice A n c], .agg #[.bool neg', .slice A' n' c']] w (RetIE (fitZ (sg false v)) (fitE (sg false v)) w) := by
  have Hv9 := Lib.hid hv9
  clear hv9
  have Hg := Lib.hid (And.intro (vld_true hv) (vld_true hv'))
  have hlx := h.len
  have hly := h'.len
  have hn : n ≤ 1000000 := by have := Hg.out.1.1; omega
  have hn' : n' ≤ 1000000 := by have := Hg.out.2.1; omega
  clear hlx hly
  have i5 : ((n : Int) == 0) = false := by rw [beq_eq_false_iff_ne]; omega
  have i6 : ((n' : Int) == 0) = true := by rw [hn1]; rfl
  clear hn0 hn1
  go_enter Try.func34, Try.ntmps34
  go_wp2_with fail
  generalize hW : World.alloc (World.alloc (World.alloc w _) _) _ = W
  obtain ⟨hb, hz, b0, b1, b2⟩ := sum_boxes neg neg' A A' n c n' c' w W hW
  have hs := h.on hb
  have hs' := h'.on hb
  clear hW
  refine (rvalid_any _ _ _ _ _ xs _ hs (Nat.le_refl _)).mono ?_
  rintro e w1 ⟨rfl, hb1⟩
  have hz1 : w.heap.size + 1 + 1 < w1.heap.size := by have := hb1.size; omega
  have b0' := b0.below hb1 (by omega)
  have b1' := b1.below hb1 (by omega)
  have b2' := b2.below hb1 (by omega)
  have hs1 := hs.on hb1
  have hs1' := hs'.on hb1
  have q0 := b1'.c0
  have q1 := b1'.c1
  go_wp2_with fail
  refine (rvalid_any _ _ _ _ _ ys _ hs1' (Nat.le_refl _)).mono ?_
  rintro e w2 ⟨rfl, hb2⟩
  clear q0 q1
  have HB := Lib.hid (below_chain (below_chain hb (by omega) hb1) (by omega) hb2)
  have b0 := b0'.below hb2 (by omega)
  have b1 := b1'.below hb2 (by omega)
  have b2 := b2'.below hb2 (by omega)
  have hs := hs1.on hb2
  have hs' := hs1'.on hb2
  clear hb1 hb2 b0' b1' b2' hs1 hs1' hb hz hz1
  generalize hr : w.heap.size = r at *
  have Hr := Lib.hid hr
  clear hr
  have k0 := b0.c0
  have k1 := b0.c1
  have He := Lib.hid (Blk.new w2 51 #[])
  have Hs := Lib.hid (hs.on (below_new w2 (.cells #[] 51)))
  have j1 := b0.lt
  go_upto_region 4 with (at_builtin; refine copy_app rfl _ _ rfl w2.heap.size n c _ _ xs rfl He.out rfl Hs.out ?_; intro A3 c3 w3 hs3 hg3)
  have D3 := below_grown (below_new w2 (.cells #[] 51)) hg3 (Nat.le_refl _) (by simp)
  clear k0 k1 j1 He Hs hg3
  have b0 := b0.below D3 b0.lt
  have b1 := b1.below D3 b1.lt
  have b2 := b2.below D3 b2.lt
  have hs' := hs'.on D3
  have HB := Lib.hid (below_chain HB.out (by have := Hr.out; have := HB.out.size; omega) D3)
  clear D3 hs
  have k0 := b1.c0
  have k1 := b1.c1
  have He := Lib.hid (Blk.new w3 51 #[])
  have Hs := Lib.hid (hs'.on (below_new w3 (.cells #[] 51)))
  have j1 := b1.lt
  go_upto_region 5 with (at_builtin; refine copy_app rfl _ _ rfl w3.heap.size n' c' _ _ ys rfl He.out rfl Hs.out ?_; intro A4 c4 w4 hs4 hg4)
  have D4 := below_grown (below_new w3 (.cells #[] 51)) hg4 (Nat.le_refl _) (by simp)
  clear k0 k1 j1 He Hs hg4
  have b0 := b0.below D4 b0.lt
  have b1 := b1.below D4 b1.lt
  have b2 := b2.below D4 b2.lt
  have hs3 := hs3.on D4
  have HB := Lib.hid (below_chain HB.out (by have := Hr.out; have := HB.out.size; omega) D4)
  clear D4 hs'
  go_wp2_with fail
  refine (rplus_any _ _ _ _ _ _ _ _ _ hs3 hs4 hn hn').mono ?_
  rintro e w5 ⟨A5, n5, c5, xs5, rfl, hs5, hx5, hv5, hb5⟩
  rw [Hv9.out] at hv5
  have b2 := b2.below hb5 b2.lt
  have HB := Lib.hid (below_chain HB.out (by have := Hr.out; have := HB.out.size; omega) hb5)
  have H5 := Lib.hid (And.intro hv5 hx5)
  clear hb5 hv5 hx5
  go_wp2_with fail
  refine (fit_any false _ _ _ _ _ hs5 H5.out.2).mono ?_
  rw [H5.out.1]
  rintro e w6 ⟨A6, n6, c6, xs6, rfl, hs6, hx6, hv6, hb6⟩
  have b2 := b2.below hb6 b2.lt
  have HB := Lib.hid (below_chain HB.out (by have := Hr.out; have := HB.out.size; omega) hb6)
  have H6 := Lib.hid hv6
  clear hb6 hv6
  have k3 := b2.c0
  have k4 := b2.c1
  have k5 := b2.f 0
  have k6 := b2.f 1
  go_wp2
  exact bodyPost_ret (v := .tuple #[.agg #[.bool (decide (fitZ (sg false v) < 0)), .slice A6 n6 c6], .int .i64 (fitE (sg false v))]) (by simp [results, Try.results34, go_sem, k3, k4]) rfl
    ⟨A6, n6, c6, xs6, rfl, hs6.ret b2 _ _, hx6, H6.out, by rw [Hr.out]; exact below_ret HB.out (show r ≤ r + 1 + 1 by omega) _ _⟩

end Go.Proofs.Ytalgcppogjpilaa

namespace Go.Proofs.Ytalgcppogjpilaa
open Go.RowKit

theorem tz_bound {k m : Nat} (hm : m % 2 = 1) (h : 2 ^ k * m < BIG) : k ≤ 4096 := by
  rcases Nat.lt_or_ge 4096 k with hk | hk
  · have a : pw 4096 ≤ pw k := pw_le (by omega)
    have b : pw k * 1 ≤ pw k * m := Nat.mul_le_mul_left _ (by omega)
    have c : pw k * m < pw 4096 := by rw [← big_pw]; exact h
    omega
  · exact hk
theorem len_small {w : World} {A : Option Addr} {n c B : Nat} {xs : List Nat} (h : Sl w B A n c xs) (hx : Nz xs) (hb : val xs < BIG) : n ≤ 1000000 := by
  have a := (big_iff h.ok hx).1 hb
  have b := h.len
  omega
theorem gcd_next {X Y k m : Nat} (hY : Y % 2 = 1) (h : Y < X) (e : X - Y = 2 ^ k * m) : Nat.gcd m Y = Nat.gcd X Y := by
  rw [← gcd_tz (k := k) hY, ← e, gcd_sub (by omega)]
theorem odd_le {X Y k m : Nat} (e : X - Y = 2 ^ k * m) : m ≤ X - Y := by
  rw [e]; exact Nat.le_mul_of_pos_left _ (Nat.pow_pos (by decide))

set_option maxHeartbeats 4000000 in
theorem rgcd_goodA (neg neg' : Bool) (A A' : Option Addr) (n c n' c' : Nat) (xs ys : List Nat) (w : World) (h : Sl w w.heap.size A n c xs) (h' : Sl w w.heap.size A' n' c' ys) (hv : vld neg xs = true) (hv' : vld neg' ys = true) (i j cc x y G v : Nat) (hi : i ≤ 4096) (hj : j ≤ 4096) (hX : val xs = 2 ^ i * x) (hY : val ys = 2 ^ j * y) (hx1 : x % 2 = 1) (hy1 : y % 2 = 1) (hc : i = cc) (hc2 : cc ≤ j) (hG : Nat.gcd x y = G) (hv9 : G * 2 ^ cc = v) :
    Calls Try.prog 34 #[.agg #[.bool neg, .slice A n c], .agg #[.bool neg', .slice A' n' c']] w (RetIE (fitZ (sg false v)) (fitE (sg false v)) w) := by
  have Hv9 := Lib.hid (And.intro hG hv9)
  have Hxy := Lib.hid (And.intro hX hY)
  have Hod := Lib.hid (And.intro hx1 hy1)
  have Hx0 := Lib.hid (fun q (hq : q < i) => tz_bit0 hX hq)
  have Hy0 := Lib.hid (fun q (hq : q < j) => tz_bit0 hY hq)
  have Hx1 := Lib.hid (tz_bit1 hX hx1)
  have Hy1 := Lib.hid (tz_bit1 hY hy1)
  have hxp : x ≠ 0 := by rintro rfl; omega
  have hyp : y ≠ 0 := by rintro rfl; omega
  have hxb : val xs < BIG := (big_iff h.ok (vld_true hv).2.1).2 (vld_true hv).1
  have hyb : val ys < BIG := (big_iff h'.ok (vld_true hv').2.1).2 (vld_true hv').1
  have HBG := Lib.hid (And.intro (Nat.lt_of_le_of_lt (show x ≤ val xs by rw [hX]; exact Nat.le_mul_of_pos_left _ (Nat.pow_pos (by decide))) hxb) (Nat.lt_of_le_of_lt (show y ≤ val ys by rw [hY]; exact Nat.le_mul_of_pos_left _ (Nat.pow_pos (by decide))) hyb))
  have i5 : ((n : Int) == 0) = false := by
    rw [beq_eq_false_iff_ne]; intro e
    have : xs = [] := List.eq_nil_of_length_eq_zero (by have := h.len; omega)
    rw [this] at hX
    have := Nat.mul_pos (Nat.pow_pos (n := i) (show 0 < 2 by decide)) (Nat.pos_of_ne_zero hxp)
    simp [val] at hX; omega
  have i6 : ((n' : Int) == 0) = false := by
    rw [beq_eq_false_iff_ne]; intro e
    have : ys = [] := List.eq_nil_of_length_eq_zero (by have := h'.len; omega)
    rw [this] at hY
    have := Nat.mul_pos (Nat.pow_pos (n := j) (show 0 < 2 by decide)) (Nat.pos_of_ne_zero hyp)
    simp [val] at hY; omega
  clear hG hv9 hX hY hx1 hy1 hxp hyp hxb hyb
  subst hc
  have Hg := Lib.hid (And.intro (vld_true hv) (vld_true hv'))
  have hlx := h.len
  have hly := h'.len
  have hn : n ≤ 1000000 := by have := Hg.out.1.1; omega
  have hn' : n' ≤ 1000000 := by have := Hg.out.2.1; omega
  clear hlx hly
  go_enter Try.func34, Try.ntmps34
  go_wp2_with fail
  generalize hW : World.alloc (World.alloc (World.alloc w _) _) _ = W
  obtain ⟨hb, hz, b0, b1, b2⟩ := sum_boxes neg neg' A A' n c n' c' w W hW
  have hs := h.on hb
  have hs' := h'.on hb
  clear hW
  refine (rvalid_any _ _ _ _ _ xs _ hs (Nat.le_refl _)).mono ?_
  rintro e w1 ⟨rfl, hb1⟩
  have hz1 : w.heap.size + 1 + 1 < w1.heap.size := by have := hb1.size; omega
  have b0' := b0.below hb1 (by omega)
  have b1' := b1.below hb1 (by omega)
  have b2' := b2.below hb1 (by omega)
  have hs1 := hs.on hb1
  have hs1' := hs'.on hb1
  have q0 := b1'.c0
  have q1 := b1'.c1
  go_wp2_with fail
  refine (rvalid_any _ _ _ _ _ ys _ hs1' (Nat.le_refl _)).mono ?_
  rintro e w2 ⟨rfl, hb2⟩
  clear q0 q1
  have HB := Lib.hid (below_chain (below_chain hb (by omega) hb1) (by omega) hb2)
  have b0 := b0'.below hb2 (by omega)
  have b1 := b1'.below hb2 (by omega)
  have b2 := b2'.below hb2 (by omega)
  have hs := hs1.on hb2
  have hs' := hs1'.on hb2
  clear hb1 hb2 b0' b1' b2' hs1 hs1' hb hz hz1
  generalize hr : w.heap.size = r at *
  have Hr := Lib.hid hr
  clear hr
  have k0 := b0.c0
  have k1 := b0.c1
  have He := Lib.hid (Blk.new w2 51 #[])
  have Hs := Lib.hid (hs.on (below_new w2 (.cells #[] 51)))
  have j1 := b0.lt
  go_upto_region 4 with (at_builtin; refine copy_app rfl _ _ rfl w2.heap.size n c _ _ xs rfl He.out rfl Hs.out ?_; intro A3 c3 w3 hs3 hg3)
  have D3 := below_grown (below_new w2 (.cells #[] 51)) hg3 (Nat.le_refl _) (by simp)
  clear k0 k1 j1 He Hs hg3
  have b0 := b0.below D3 b0.lt
  have b1 := b1.below D3 b1.lt
  have b2 := b2.below D3 b2.lt
  have hs' := hs'.on D3
  have HB := Lib.hid (below_chain HB.out (by have := Hr.out; have := HB.out.size; omega) D3)
  clear D3 hs
  have k0 := b1.c0
  have k1 := b1.c1
  have He := Lib.hid (Blk.new w3 51 #[])
  have Hs := Lib.hid (hs'.on (below_new w3 (.cells #[] 51)))
  have j1 := b1.lt
  go_upto_region 5 with (at_builtin; refine copy_app rfl _ _ rfl w3.heap.size n' c' _ _ ys rfl He.out rfl Hs.out ?_; intro A4 c4 w4 hs4 hg4)
  have D4 := below_grown (below_new w3 (.cells #[] 51)) hg4 (Nat.le_refl _) (by simp)
  clear k0 k1 j1 He Hs hg4
  have b0 := b0.below D4 b0.lt
  have b1 := b1.below D4 b1.lt
  have b2 := b2.below D4 b2.lt
  have hs3 := hs3.on D4
  have HB := Lib.hid (below_chain HB.out (by have := Hr.out; have := HB.out.size; omega) D4)
  clear D4 hs'
  clear b0 b1
  go_wp2_with fail
  go_loop [8] (fun iv => ∃ q : Nat, q ≤ i ∧ iv = .int .i64 (q : Int)) (fun iv => i + 1 - (intOf iv).toNat)
  case atStart => exact ⟨0, by omega, rfl⟩
  case round =>
    obtain ⟨q, hq, rfl⟩ := hrel
    by_cases hqc : q < i
    · have C := rbit_any A3 n c3 _ q (q / 32) (q % 32) 0 xs _ hs3 (by omega) (by omega) (by omega) (Hx0.out q (by omega))
      go_wp2_with fail
      refine C.mono ?_
      clear C
      rintro e w5 ⟨rfl, rfl⟩
      have C := rbit_any A4 n' c4 _ q (q / 32) (q % 32) 0 ys _ hs4 (by omega) (by omega) (by omega) (Hy0.out q (by omega))
      go_wp2_with fail
      refine C.mono ?_
      clear C
      rintro e w5 ⟨rfl, rfl⟩
      go_wp2
      exact ⟨⟨q + 1, by omega, by go_num⟩, by simp [intOf]; omega⟩
    · obtain rfl : q = i := by omega
      have C := rbit_any A3 n c3 _ q (q / 32) (q % 32) 1 xs _ hs3 (by omega) (by omega) (by omega) (Hx1.out)
      go_wp2_with fail
      refine C.mono ?_
      clear C
      rintro e w5 ⟨rfl, rfl⟩
      go_wp2_with fail
      refine (rodd_any _ _ _ q x _ _ hs3 Hg.out.1.2.1 hn (by omega) Hxy.out.1 Hod.out.1).mono ?_
      rintro e w8 ⟨A8, n8, c8, xs8, rfl, hs8, hx8, hv8, hb8⟩
      have hs4 := hs4.on hb8
      have b2 := b2.below hb8 b2.lt
      have HB := Lib.hid (below_chain HB.out (by have := Hr.out; have := HB.out.size; omega) hb8)
      have H8 := Lib.hid (And.intro hv8 hx8)
      clear hb8 hv8 hx8
      go_wp2_with fail
      refine (rodd_any _ _ _ j y _ _ hs4 Hg.out.2.2.1 hn' (by omega) Hxy.out.2 Hod.out.2).mono ?_
      rintro e w9 ⟨A9, n9, c9, xs9, rfl, hs9, hx9, hv9, hb9⟩
      have hs8 := hs8.on hb9
      have b2 := b2.below hb9 b2.lt
      have HB := Lib.hid (below_chain HB.out (by have := Hr.out; have := HB.out.size; omega) hb9)
      have H9 := Lib.hid (And.intro hv9 hx9)
      clear hb9 hv9 hx9 hs3 hs4
      go_wp2_with fail
      go_loopg [6, 7, 9] (x + y) (fun g s6 s7 s9 wr => ∃ (Ax : Option Addr) (nx cx : Nat) (zx : List Nat) (Ay : Option Addr) (ny cy : Nat) (zy : List Nat), s6 = .slice Ax nx cx ∧ s7 = .slice Ay ny cy ∧ g = val zx + val zy ∧
        Sl wr wr.heap.size Ax nx cx zx ∧ Sl wr wr.heap.size Ay ny cy zy ∧ Hid (Nz zx) ∧ Hid (Nz zy) ∧ Hid (val zx % 2 = 1 ∧ val zy % 2 = 1 ∧ Nat.gcd (val zx) (val zy) = G ∧ (val zx < BIG ∧ val zy < BIG)) ∧ Hid (Bx wr (r + 1 + 1) false none 0 0) ∧ Hid (Below r w wr))
      case atStart => exact ⟨A8, n8, c8, xs8, A9, n9, c9, xs9, rfl, rfl, by rw [H8.out.1, H9.out.1], hs8, hs9, H8.out.2, H9.out.2, by rw [Hid, H8.out.1, H9.out.1]; exact ⟨Hod.out.1, Hod.out.2, Hv9.out.1, HBG.out.1, HBG.out.2⟩, b2, HB.out⟩
      case round =>
        clear hs8 hs9 b2
        obtain ⟨Ax, nx, cx, zx, Ay, ny, cy, zy, rfl, rfl, rfl, hsx, hsy, Hzx, Hzy, Hp, Hb2, HBr⟩ := hrel
        generalize hX : val zx = X at *
        generalize hY : val zy = Y at *
        have HX := Lib.hid hX
        have HY := Lib.hid hY
        clear hX hY
        have C1 := rorder_any _ _ _ _ _ _ _ _ _ _ _ hsx hsy Hzx.out Hzy.out
        rw [HX.out, HY.out] at C1
        go_wp2_with fail
        refine C1.mono ?_
        clear C1
        rintro e w10 ⟨rfl, q1, rfl⟩
        by_cases heq : X = Y
        · subst heq
          rw [cmpv_eq]
          have hnx := len_small hsx Hzx.out (by rw [HX.out]; exact Hp.out.2.2.2.1)
          have hsq := hsx.drewN q1
          have b2q := Hb2.out.drewN q1
          have HBq := Lib.hid (below_drewN HBr.out q1)
          go_wp2_with fail
          refine (rleft_any _ _ _ q (q / 32) (q % 32) _ _ hsq hnx (by omega) (by omega) (by omega)).mono ?_
          rintro e w12 ⟨A12, n12, c12, xs12, rfl, hs12, hx12, hv12, hb12⟩
          have H12 := Lib.hid (show val xs12 = v by rw [hv12, HX.out, ← Hv9.out.2, ← Hp.out.2.2.1, Nat.gcd_self])
          have b12 := b2q.below hb12 b2q.lt
          have HB12 := Lib.hid (below_chain HBq.out (by have := Hr.out; have := HBq.out.size; omega) hb12)
          clear hb12 hv12 hsq b2q
          go_wp2_with fail
          refine (fit_any false _ _ _ _ _ hs12 hx12).mono ?_
          rw [H12.out]
          rintro e w13 ⟨A13, n13, c13, xs13, rfl, hs13, hx13, hv13, hb13⟩
          have b13 := b12.below hb13 b12.lt
          have HB13 := Lib.hid (below_chain HB12.out (by have := Hr.out; have := HB12.out.size; omega) hb13)
          have H13 := Lib.hid hv13
          clear hb13 hv13 b12
          have k3 := b13.c0
          have k4 := b13.c1
          have k5 := b13.f 0
          have k6 := b13.f 1
          go_wp2
          exact bodyPost_ret (v := .tuple #[.agg #[.bool (decide (fitZ (sg false v) < 0)), .slice A13 n13 c13], .int .i64 (fitE (sg false v))]) (by simp [results, Try.results34, go_sem, k3, k4]) rfl
            ⟨A13, n13, c13, xs13, rfl, hs13.ret b13 _ _, hx13, H13.out, by rw [Hr.out]; exact below_ret HB13.out (show r ≤ r + 1 + 1 by omega) _ _⟩
        · rcases Nat.lt_or_ge Y X with hlt | hlt
          · rw [cmpv_gt hlt]
            have C2 := rorder_any _ _ _ _ _ _ _ _ _ _ _ (hsx.drewN q1) (hsy.drewN q1) Hzx.out Hzy.out
            rw [HX.out, HY.out, cmpv_gt hlt] at C2
            go_wp2_with fail
            refine C2.mono ?_
            clear C2
            rintro e w11 ⟨rfl, q2, rfl⟩
            obtain ⟨k5, m5, he5, ho5, _⟩ := tz_of (X - Y) (by omega)
            have hk6 := tz_bound ho5 (by rw [← he5]; have := Hp.out.2.2.2; omega)
            have Hk := Lib.hid (And.intro he5 ho5)
            have Hg5 := Lib.hid (gcd_next Hp.out.2.1 hlt he5)
            have Hm5 := Lib.hid (odd_le he5)
            clear he5 ho5
            have hsb := hsx.drewN (q1 + q2)
            have hss := hsy.drewN (q1 + q2)
            have b2q := Hb2.out.drewN (q1 + q2)
            have HBq := Lib.hid (below_drewN HBr.out (q1 + q2))
            go_wp2_with fail
            refine (rminus_any _ _ _ _ _ _ _ _ _ hsb hss Hzy.out (by rw [HX.out, HY.out]; omega)).mono ?_
            rintro e w6 ⟨A6, n6, c6, xs6, rfl, hs6, hx6, hv6, hb6⟩
            have H6 := Lib.hid (show val xs6 = 2 ^ k5 * m5 by rw [hv6, HX.out, HY.out]; exact Hk.out.1)
            have hn6 := len_small hs6 hx6 (by rw [hv6, HX.out, HY.out]; have := Hp.out.2.2.2; omega)
            have Hss := Lib.hid (hss.on hb6)
            have b6 := b2q.below hb6 b2q.lt
            have HB6 := Lib.hid (below_chain HBq.out (by have := Hr.out; have := HBq.out.size; omega) hb6)
            clear hb6 hv6 hsb
            go_wp2_with fail
            refine (rodd_any _ _ _ k5 m5 _ _ hs6 hx6 hn6 (by omega) H6.out Hk.out.2).mono ?_
            rintro e w7 ⟨A7, n7, c7, xs7, rfl, hs7, hx7, hv7, hb7⟩
            have Hs7 := Lib.hid (Hss.out.on hb7)
            have b7 := b6.below hb7 b6.lt
            have HB7 := Lib.hid (below_chain HB6.out (by have := Hr.out; have := HB6.out.size; omega) hb7)
            have H7 := Lib.hid (And.intro hv7 hx7)
            clear hb7 hv7 hx7 b6
            go_wp2
            go_roundg (m5 + Y)
            case measure => have := Hm5.out; have := Hp.out.1; have := Hp.out.2.1; omega
            case rel => exact ⟨A7, n7, c7, xs7, _, _, _, _, rfl, rfl, by rw [H7.out.1, HY.out], hs7, Hs7.out, H7.out.2, Hzy.out, by rw [Hid, H7.out.1, HY.out]; exact ⟨Hk.out.2, Hp.out.2.1, Hg5.out.trans Hp.out.2.2.1, by have := Hm5.out; have := Hp.out.2.2.2; omega⟩, b7, HB7.out⟩
          · have hlt : X < Y := by omega
            rw [cmpv_lt hlt]
            have C2 := rorder_any _ _ _ _ _ _ _ _ _ _ _ (hsx.drewN q1) (hsy.drewN q1) Hzx.out Hzy.out
            rw [HX.out, HY.out, cmpv_lt hlt] at C2
            go_wp2_with fail
            refine C2.mono ?_
            clear C2
            rintro e w11 ⟨rfl, q2, rfl⟩
            obtain ⟨k5, m5, he5, ho5, _⟩ := tz_of (Y - X) (by omega)
            have hk6 := tz_bound ho5 (by rw [← he5]; have := Hp.out.2.2.2; omega)
            have Hk := Lib.hid (And.intro he5 ho5)
            have Hg5 := Lib.hid (gcd_next Hp.out.1 hlt he5)
            have Hm5 := Lib.hid (odd_le he5)
            clear he5 ho5
            have hsb := hsy.drewN (q1 + q2)
            have hss := hsx.drewN (q1 + q2)
            have b2q := Hb2.out.drewN (q1 + q2)
            have HBq := Lib.hid (below_drewN HBr.out (q1 + q2))
            go_wp2_with fail
            refine (rminus_any _ _ _ _ _ _ _ _ _ hsb hss Hzx.out (by rw [HY.out, HX.out]; omega)).mono ?_
            rintro e w6 ⟨A6, n6, c6, xs6, rfl, hs6, hx6, hv6, hb6⟩
            have H6 := Lib.hid (show val xs6 = 2 ^ k5 * m5 by rw [hv6, HY.out, HX.out]; exact Hk.out.1)
            have hn6 := len_small hs6 hx6 (by rw [hv6, HY.out, HX.out]; have := Hp.out.2.2.2; omega)
            have Hss := Lib.hid (hss.on hb6)
            have b6 := b2q.below hb6 b2q.lt
            have HB6 := Lib.hid (below_chain HBq.out (by have := Hr.out; have := HBq.out.size; omega) hb6)
            clear hb6 hv6 hsb
            go_wp2_with fail
            refine (rodd_any _ _ _ k5 m5 _ _ hs6 hx6 hn6 (by omega) H6.out Hk.out.2).mono ?_
            rintro e w7 ⟨A7, n7, c7, xs7, rfl, hs7, hx7, hv7, hb7⟩
            have Hs7 := Lib.hid (Hss.out.on hb7)
            have b7 := b6.below hb7 b6.lt
            have HB7 := Lib.hid (below_chain HB6.out (by have := Hr.out; have := HB6.out.size; omega) hb7)
            have H7 := Lib.hid (And.intro hv7 hx7)
            clear hb7 hv7 hx7 b6
            go_wp2
            go_roundg (m5 + X)
            case measure => have := Hm5.out; have := Hp.out.1; have := Hp.out.2.1; omega
            case rel => exact ⟨A7, n7, c7, xs7, _, _, _, _, rfl, rfl, by rw [H7.out.1, HX.out], hs7, Hs7.out, H7.out.2, Hzx.out, by rw [Hid, H7.out.1, HX.out]; exact ⟨Hk.out.2, Hp.out.1, Hg5.out.trans ((Nat.gcd_comm _ _).trans Hp.out.2.2.1), by have := Hm5.out; have := Hp.out.2.2.2; omega⟩, b7, HB7.out⟩

set_option maxHeartbeats 4000000 in
theorem rgcd_goodB (neg neg' : Bool) (A A' : Option Addr) (n c n' c' : Nat) (xs ys : List Nat) (w : World) (h : Sl w w.heap.size A n c xs) (h' : Sl w w.heap.size A' n' c' ys) (hv : vld neg xs = true) (hv' : vld neg' ys = true) (i j cc x y G v : Nat) (hi : i ≤ 4096) (hj : j ≤ 4096) (hX : val xs = 2 ^ i * x) (hY : val ys = 2 ^ j * y) (hx1 : x % 2 = 1) (hy1 : y % 2 = 1) (hc : j = cc) (hc2 : cc < i) (hG : Nat.gcd x y = G) (hv9 : G * 2 ^ cc = v) :
    Calls Try.prog 34 #[.agg #[.bool neg, .slice A n c], .agg #[.bool neg', .slice A' n' c']] w (RetIE (fitZ (sg false v)) (fitE (sg false v)) w) := by
  have Hv9 := Lib.hid (And.intro hG hv9)
  have Hxy := Lib.hid (And.intro hX hY)
  have Hod := Lib.hid (And.intro hx1 hy1)
  have Hx0 := Lib.hid (fun q (hq : q < i) => tz_bit0 hX hq)
  have Hy0 := Lib.hid (fun q (hq : q < j) => tz_bit0 hY hq)
  have Hx1 := Lib.hid (tz_bit1 hX hx1)
  have Hy1 := Lib.hid (tz_bit1 hY hy1)
  have hxp : x ≠ 0 := by rintro rfl; omega
  have hyp : y ≠ 0 := by rintro rfl; omega
  have hxb : val xs < BIG := (big_iff h.ok (vld_true hv).2.1).2 (vld_true hv).1
  have hyb : val ys < BIG := (big_iff h'.ok (vld_true hv').2.1).2 (vld_true hv').1
  have HBG := Lib.hid (And.intro (Nat.lt_of_le_of_lt (show x ≤ val xs by rw [hX]; exact Nat.le_mul_of_pos_left _ (Nat.pow_pos (by decide))) hxb) (Nat.lt_of_le_of_lt (show y ≤ val ys by rw [hY]; exact Nat.le_mul_of_pos_left _ (Nat.pow_pos (by decide))) hyb))
  have i5 : ((n : Int) == 0) = false := by
    rw [beq_eq_false_iff_ne]; intro e
    have : xs = [] := List.eq_nil_of_length_eq_zero (by have := h.len; omega)
    rw [this] at hX
    have := Nat.mul_pos (Nat.pow_pos (n := i) (show 0 < 2 by decide)) (Nat.pos_of_ne_zero hxp)
    simp [val] at hX; omega
  have i6 : ((n' : Int) == 0) = false := by
    rw [beq_eq_false_iff_ne]; intro e
    have : ys = [] := List.eq_nil_of_length_eq_zero (by have := h'.len; omega)
    rw [this] at hY
    have := Nat.mul_pos (Nat.pow_pos (n := j) (show 0 < 2 by decide)) (Nat.pos_of_ne_zero hyp)
    simp [val] at hY; omega
  clear hG hv9 hX hY hx1 hy1 hxp hyp hxb hyb
  subst hc
  have Hg := Lib.hid (And.intro (vld_true hv) (vld_true hv'))
  have hlx := h.len
  have hly := h'.len
  have hn : n ≤ 1000000 := by have := Hg.out.1.1; omega
  have hn' : n' ≤ 1000000 := by have := Hg.out.2.1; omega
  clear hlx hly
  go_enter Try.func34, Try.ntmps34
  go_wp2_with fail
  generalize hW : World.alloc (World.alloc (World.alloc w _) _) _ = W
  obtain ⟨hb, hz, b0, b1, b2⟩ := sum_boxes neg neg' A A' n c n' c' w W hW
  have hs := h.on hb
  have hs' := h'.on hb
  clear hW
  refine (rvalid_any _ _ _ _ _ xs _ hs (Nat.le_refl _)).mono ?_
  rintro e w1 ⟨rfl, hb1⟩
  have hz1 : w.heap.size + 1 + 1 < w1.heap.size := by have := hb1.size; omega
  have b0' := b0.below hb1 (by omega)
  have b1' := b1.below hb1 (by omega)
  have b2' := b2.below hb1 (by omega)
  have hs1 := hs.on hb1
  have hs1' := hs'.on hb1
  have q0 := b1'.c0
  have q1 := b1'.c1
  go_wp2_with fail
  refine (rvalid_any _ _ _ _ _ ys _ hs1' (Nat.le_refl _)).mono ?_
  rintro e w2 ⟨rfl, hb2⟩
  clear q0 q1
  have HB := Lib.hid (below_chain (below_chain hb (by omega) hb1) (by omega) hb2)
  have b0 := b0'.below hb2 (by omega)
  have b1 := b1'.below hb2 (by omega)
  have b2 := b2'.below hb2 (by omega)
  have hs := hs1.on hb2
  have hs' := hs1'.on hb2
  clear hb1 hb2 b0' b1' b2' hs1 hs1' hb hz hz1
  generalize hr : w.heap.size = r at *
  have Hr := Lib.hid hr
  clear hr
  have k0 := b0.c0
  have k1 := b0.c1
  have He := Lib.hid (Blk.new w2 51 #[])
  have Hs := Lib.hid (hs.on (below_new w2 (.cells #[] 51)))
  have j1 := b0.lt
  go_upto_region 4 with (at_builtin; refine copy_app rfl _ _ rfl w2.heap.size n c _ _ xs rfl He.out rfl Hs.out ?_; intro A3 c3 w3 hs3 hg3)
  have D3 := below_grown (below_new w2 (.cells #[] 51)) hg3 (Nat.le_refl _) (by simp)
  clear k0 k1 j1 He Hs hg3
  have b0 := b0.below D3 b0.lt
  have b1 := b1.below D3 b1.lt
  have b2 := b2.below D3 b2.lt
  have hs' := hs'.on D3
  have HB := Lib.hid (below_chain HB.out (by have := Hr.out; have := HB.out.size; omega) D3)
  clear D3 hs
  have k0 := b1.c0
  have k1 := b1.c1
  have He := Lib.hid (Blk.new w3 51 #[])
  have Hs := Lib.hid (hs'.on (below_new w3 (.cells #[] 51)))
  have j1 := b1.lt
  go_upto_region 5 with (at_builtin; refine copy_app rfl _ _ rfl w3.heap.size n' c' _ _ ys rfl He.out rfl Hs.out ?_; intro A4 c4 w4 hs4 hg4)
  have D4 := below_grown (below_new w3 (.cells #[] 51)) hg4 (Nat.le_refl _) (by simp)
  clear k0 k1 j1 He Hs hg4
  have b0 := b0.below D4 b0.lt
  have b1 := b1.below D4 b1.lt
  have b2 := b2.below D4 b2.lt
  have hs3 := hs3.on D4
  have HB := Lib.hid (below_chain HB.out (by have := Hr.out; have := HB.out.size; omega) D4)
  clear D4 hs'
  clear b0 b1
  go_wp2_with fail
  go_loop [8] (fun iv => ∃ q : Nat, q ≤ j ∧ iv = .int .i64 (q : Int)) (fun iv => j + 1 - (intOf iv).toNat)
  case atStart => exact ⟨0, by omega, rfl⟩
  case round =>
    obtain ⟨q, hq, rfl⟩ := hrel
    by_cases hqc : q < j
    · have C := rbit_any A3 n c3 _ q (q / 32) (q % 32) 0 xs _ hs3 (by omega) (by omega) (by omega) (Hx0.out q (by omega))
      go_wp2_with fail
      refine C.mono ?_
      clear C
      rintro e w5 ⟨rfl, rfl⟩
      have C := rbit_any A4 n' c4 _ q (q / 32) (q % 32) 0 ys _ hs4 (by omega) (by omega) (by omega) (Hy0.out q (by omega))
      go_wp2_with fail
      refine C.mono ?_
      clear C
      rintro e w5 ⟨rfl, rfl⟩
      go_wp2
      exact ⟨⟨q + 1, by omega, by go_num⟩, by simp [intOf]; omega⟩
    · obtain rfl : q = j := by omega
      have C := rbit_any A3 n c3 _ q (q / 32) (q % 32) 0 xs _ hs3 (by omega) (by omega) (by omega) (Hx0.out q hc2)
      go_wp2_with fail
      refine C.mono ?_
      clear C
      rintro e w5 ⟨rfl, rfl⟩
      have C := rbit_any A4 n' c4 _ q (q / 32) (q % 32) 1 ys _ hs4 (by omega) (by omega) (by omega) (Hy1.out)
      go_wp2_with fail
      refine C.mono ?_
      clear C
      rintro e w5 ⟨rfl, rfl⟩
      go_wp2_with fail
      refine (rodd_any _ _ _ i x _ _ hs3 Hg.out.1.2.1 hn (by omega) Hxy.out.1 Hod.out.1).mono ?_
      rintro e w8 ⟨A8, n8, c8, xs8, rfl, hs8, hx8, hv8, hb8⟩
      have hs4 := hs4.on hb8
      have b2 := b2.below hb8 b2.lt
      have HB := Lib.hid (below_chain HB.out (by have := Hr.out; have := HB.out.size; omega) hb8)
      have H8 := Lib.hid (And.intro hv8 hx8)
      clear hb8 hv8 hx8
      go_wp2_with fail
      refine (rodd_any _ _ _ q y _ _ hs4 Hg.out.2.2.1 hn' (by omega) Hxy.out.2 Hod.out.2).mono ?_
      rintro e w9 ⟨A9, n9, c9, xs9, rfl, hs9, hx9, hv9, hb9⟩
      have hs8 := hs8.on hb9
      have b2 := b2.below hb9 b2.lt
      have HB := Lib.hid (below_chain HB.out (by have := Hr.out; have := HB.out.size; omega) hb9)
      have H9 := Lib.hid (And.intro hv9 hx9)
      clear hb9 hv9 hx9 hs3 hs4
      go_wp2_with fail
      go_loopg [6, 7, 9] (x + y) (fun g s6 s7 s9 wr => ∃ (Ax : Option Addr) (nx cx : Nat) (zx : List Nat) (Ay : Option Addr) (ny cy : Nat) (zy : List Nat), s6 = .slice Ax nx cx ∧ s7 = .slice Ay ny cy ∧ g = val zx + val zy ∧
        Sl wr wr.heap.size Ax nx cx zx ∧ Sl wr wr.heap.size Ay ny cy zy ∧ Hid (Nz zx) ∧ Hid (Nz zy) ∧ Hid (val zx % 2 = 1 ∧ val zy % 2 = 1 ∧ Nat.gcd (val zx) (val zy) = G ∧ (val zx < BIG ∧ val zy < BIG)) ∧ Hid (Bx wr (r + 1 + 1) false none 0 0) ∧ Hid (Below r w wr))
      case atStart => exact ⟨A8, n8, c8, xs8, A9, n9, c9, xs9, rfl, rfl, by rw [H8.out.1, H9.out.1], hs8, hs9, H8.out.2, H9.out.2, by rw [Hid, H8.out.1, H9.out.1]; exact ⟨Hod.out.1, Hod.out.2, Hv9.out.1, HBG.out.1, HBG.out.2⟩, b2, HB.out⟩
      case round =>
        clear hs8 hs9 b2
        obtain ⟨Ax, nx, cx, zx, Ay, ny, cy, zy, rfl, rfl, rfl, hsx, hsy, Hzx, Hzy, Hp, Hb2, HBr⟩ := hrel
        generalize hX : val zx = X at *
        generalize hY : val zy = Y at *
        have HX := Lib.hid hX
        have HY := Lib.hid hY
        clear hX hY
        have C1 := rorder_any _ _ _ _ _ _ _ _ _ _ _ hsx hsy Hzx.out Hzy.out
        rw [HX.out, HY.out] at C1
        go_wp2_with fail
        refine C1.mono ?_
        clear C1
        rintro e w10 ⟨rfl, q1, rfl⟩
        by_cases heq : X = Y
        · subst heq
          rw [cmpv_eq]
          have hnx := len_small hsx Hzx.out (by rw [HX.out]; exact Hp.out.2.2.2.1)
          have hsq := hsx.drewN q1
          have b2q := Hb2.out.drewN q1
          have HBq := Lib.hid (below_drewN HBr.out q1)
          go_wp2_with fail
          refine (rleft_any _ _ _ q (q / 32) (q % 32) _ _ hsq hnx (by omega) (by omega) (by omega)).mono ?_
          rintro e w12 ⟨A12, n12, c12, xs12, rfl, hs12, hx12, hv12, hb12⟩
          have H12 := Lib.hid (show val xs12 = v by rw [hv12, HX.out, ← Hv9.out.2, ← Hp.out.2.2.1, Nat.gcd_self])
          have b12 := b2q.below hb12 b2q.lt
          have HB12 := Lib.hid (below_chain HBq.out (by have := Hr.out; have := HBq.out.size; omega) hb12)
          clear hb12 hv12 hsq b2q
          go_wp2_with fail
          refine (fit_any false _ _ _ _ _ hs12 hx12).mono ?_
          rw [H12.out]
          rintro e w13 ⟨A13, n13, c13, xs13, rfl, hs13, hx13, hv13, hb13⟩
          have b13 := b12.below hb13 b12.lt
          have HB13 := Lib.hid (below_chain HB12.out (by have := Hr.out; have := HB12.out.size; omega) hb13)
          have H13 := Lib.hid hv13
          clear hb13 hv13 b12
          have k3 := b13.c0
          have k4 := b13.c1
          have k5 := b13.f 0
          have k6 := b13.f 1
          go_wp2
          exact bodyPost_ret (v := .tuple #[.agg #[.bool (decide (fitZ (sg false v) < 0)), .slice A13 n13 c13], .int .i64 (fitE (sg false v))]) (by simp [results, Try.results34, go_sem, k3, k4]) rfl
            ⟨A13, n13, c13, xs13, rfl, hs13.ret b13 _ _, hx13, H13.out, by rw [Hr.out]; exact below_ret HB13.out (show r ≤ r + 1 + 1 by omega) _ _⟩
        · rcases Nat.lt_or_ge Y X with hlt | hlt
          · rw [cmpv_gt hlt]
            have C2 := rorder_any _ _ _ _ _ _ _ _ _ _ _ (hsx.drewN q1) (hsy.drewN q1) Hzx.out Hzy.out
            rw [HX.out, HY.out, cmpv_gt hlt] at C2
            go_wp2_with fail
            refine C2.mono ?_
            clear C2
            rintro e w11 ⟨rfl, q2, rfl⟩
            obtain ⟨k5, m5, he5, ho5, _⟩ := tz_of (X - Y) (by omega)
            have hk6 := tz_bound ho5 (by rw [← he5]; have := Hp.out.2.2.2; omega)
            have Hk := Lib.hid (And.intro he5 ho5)
            have Hg5 := Lib.hid (gcd_next Hp.out.2.1 hlt he5)
            have Hm5 := Lib.hid (odd_le he5)
            clear he5 ho5
            have hsb := hsx.drewN (q1 + q2)
            have hss := hsy.drewN (q1 + q2)
            have b2q := Hb2.out.drewN (q1 + q2)
            have HBq := Lib.hid (below_drewN HBr.out (q1 + q2))
            go_wp2_with fail
            refine (rminus_any _ _ _ _ _ _ _ _ _ hsb hss Hzy.out (by rw [HX.out, HY.out]; omega)).mono ?_
            rintro e w6 ⟨A6, n6, c6, xs6, rfl, hs6, hx6, hv6, hb6⟩
            have H6 := Lib.hid (show val xs6 = 2 ^ k5 * m5 by rw [hv6, HX.out, HY.out]; exact Hk.out.1)
            have hn6 := len_small hs6 hx6 (by rw [hv6, HX.out, HY.out]; have := Hp.out.2.2.2; omega)
            have Hss := Lib.hid (hss.on hb6)
            have b6 := b2q.below hb6 b2q.lt
            have HB6 := Lib.hid (below_chain HBq.out (by have := Hr.out; have := HBq.out.size; omega) hb6)
            clear hb6 hv6 hsb
            go_wp2_with fail
            refine (rodd_any _ _ _ k5 m5 _ _ hs6 hx6 hn6 (by omega) H6.out Hk.out.2).mono ?_
            rintro e w7 ⟨A7, n7, c7, xs7, rfl, hs7, hx7, hv7, hb7⟩
            have Hs7 := Lib.hid (Hss.out.on hb7)
            have b7 := b6.below hb7 b6.lt
            have HB7 := Lib.hid (below_chain HB6.out (by have := Hr.out; have := HB6.out.size; omega) hb7)
            have H7 := Lib.hid (And.intro hv7 hx7)
            clear hb7 hv7 hx7 b6
            go_wp2
            go_roundg (m5 + Y)
            case measure => have := Hm5.out; have := Hp.out.1; have := Hp.out.2.1; omega
            case rel => exact ⟨A7, n7, c7, xs7, _, _, _, _, rfl, rfl, by rw [H7.out.1, HY.out], hs7, Hs7.out, H7.out.2, Hzy.out, by rw [Hid, H7.out.1, HY.out]; exact ⟨Hk.out.2, Hp.out.2.1, Hg5.out.trans Hp.out.2.2.1, by have := Hm5.out; have := Hp.out.2.2.2; omega⟩, b7, HB7.out⟩
          · have hlt : X < Y := by omega
            rw [cmpv_lt hlt]
            have C2 := rorder_any _ _ _ _ _ _ _ _ _ _ _ (hsx.drewN q1) (hsy.drewN q1) Hzx.out Hzy.out
            rw [HX.out, HY.out, cmpv_lt hlt] at C2
            go_wp2_with fail
            refine C2.mono ?_
            clear C2
            rintro e w11 ⟨rfl, q2, rfl⟩
            obtain ⟨k5, m5, he5, ho5, _⟩ := tz_of (Y - X) (by omega)
            have hk6 := tz_bound ho5 (by rw [← he5]; have := Hp.out.2.2.2; omega)
            have Hk := Lib.hid (And.intro he5 ho5)
            have Hg5 := Lib.hid (gcd_next Hp.out.1 hlt he5)
            have Hm5 := Lib.hid (odd_le he5)
            clear he5 ho5
            have hsb := hsy.drewN (q1 + q2)
            have hss := hsx.drewN (q1 + q2)
            have b2q := Hb2.out.drewN (q1 + q2)
            have HBq := Lib.hid (below_drewN HBr.out (q1 + q2))
            go_wp2_with fail
            refine (rminus_any _ _ _ _ _ _ _ _ _ hsb hss Hzx.out (by rw [HY.out, HX.out]; omega)).mono ?_
            rintro e w6 ⟨A6, n6, c6, xs6, rfl, hs6, hx6, hv6, hb6⟩
            have H6 := Lib.hid (show val xs6 = 2 ^ k5 * m5 by rw [hv6, HY.out, HX.out]; exact Hk.out.1)
            have hn6 := len_small hs6 hx6 (by rw [hv6, HY.out, HX.out]; have := Hp.out.2.2.2; omega)
            have Hss := Lib.hid (hss.on hb6)
            have b6 := b2q.below hb6 b2q.lt
            have HB6 := Lib.hid (below_chain HBq.out (by have := Hr.out; have := HBq.out.size; omega) hb6)
            clear hb6 hv6 hsb
            go_wp2_with fail
            refine (rodd_any _ _ _ k5 m5 _ _ hs6 hx6 hn6 (by omega) H6.out Hk.out.2).mono ?_
            rintro e w7 ⟨A7, n7, c7, xs7, rfl, hs7, hx7, hv7, hb7⟩
            have Hs7 := Lib.hid (Hss.out.on hb7)
            have b7 := b6.below hb7 b6.lt
            have HB7 := Lib.hid (below_chain HB6.out (by have := Hr.out; have := HB6.out.size; omega) hb7)
            have H7 := Lib.hid (And.intro hv7 hx7)
            clear hb7 hv7 hx7 b6
            go_wp2
            go_roundg (m5 + X)
            case measure => have := Hm5.out; have := Hp.out.1; have := Hp.out.2.1; omega
            case rel => exact ⟨A7, n7, c7, xs7, _, _, _, _, rfl, rfl, by rw [H7.out.1, HX.out], hs7, Hs7.out, H7.out.2, Hzx.out, by rw [Hid, H7.out.1, HX.out]; exact ⟨Hk.out.2, Hp.out.1, Hg5.out.trans ((Nat.gcd_comm _ _).trans Hp.out.2.2.1), by have := Hm5.out; have := Hp.out.2.2.2; omega⟩, b7, HB7.out⟩

theorem rgcd_any (neg neg' : Bool) (A A' : Option Addr) (n c n' c' : Nat) (xs ys : List Nat) (w : World) (h : Sl w w.heap.size A n c xs) (h' : Sl w w.heap.size A' n' c' ys) (hv : vld neg xs = true) (hv' : vld neg' ys = true) :
    Calls Try.prog 34 #[.agg #[.bool neg, .slice A n c], .agg #[.bool neg', .slice A' n' c']] w (RetIE (fitZ (sg false (Nat.gcd (val xs) (val ys)))) (fitE (sg false (Nat.gcd (val xs) (val ys)))) w) := by
  by_cases h0 : n = 0
  · have e : xs = [] := List.eq_nil_of_length_eq_zero (by rw [h.len]; exact h0)
    exact rgcd_zero1 neg neg' A A' n c n' c' xs ys w h h' hv hv' h0 _ (by rw [e]; simp [val])
  · by_cases h1 : n' = 0
    · have e : ys = [] := List.eq_nil_of_length_eq_zero (by rw [h'.len]; exact h1)
      exact rgcd_zero2 neg neg' A A' n c n' c' xs ys w h h' hv hv' h0 h1 _ (by rw [e]; simp [val])
    · have px : 0 < val xs := val_pos (vld_true hv).2.1 (by rintro rfl; have := h.len; simp at this; omega)
      have py : 0 < val ys := val_pos (vld_true hv').2.1 (by rintro rfl; have := h'.len; simp at this; omega)
      have bx : val xs < BIG := (big_iff h.ok (vld_true hv).2.1).2 (vld_true hv).1
      have by' : val ys < BIG := (big_iff h'.ok (vld_true hv').2.1).2 (vld_true hv').1
      obtain ⟨i, x, ex, ox, _⟩ := tz_of _ px
      obtain ⟨j, y, ey, oy, _⟩ := tz_of _ py
      have hi := tz_bound ox (by rw [← ex]; exact bx)
      have hj := tz_bound oy (by rw [← ey]; exact by')
      by_cases hij : i ≤ j
      · exact rgcd_goodA neg neg' A A' n c n' c' xs ys w h h' hv hv' i j i x y _ _ hi hj ex ey ox oy rfl hij rfl (by rw [ex, ey]; exact (gcd_common ox oy (.inl ⟨rfl, hij⟩)).symm)
      · exact rgcd_goodB neg neg' A A' n c n' c' xs ys w h h' hv hv' i j j x y _ _ hi hj ex ey ox oy rfl (by omega) rfl (by rw [ex, ey]; exact (gcd_common ox oy (.inr ⟨rfl, by omega⟩)).symm)

/-- The reference's GCD, for any two integers. -/
theorem rgcd_ov {neg neg' : Bool} {A A' : Option Addr} {n c n' c' : Nat} {xs ys : List Nat} {w : World} (h : Sl w w.heap.size A n c xs) (h' : Sl w w.heap.size A' n' c' ys) :
    Calls Try.prog 34 #[.agg #[.bool neg, .slice A n c], .agg #[.bool neg', .slice A' n' c']] w (RetIE (o2Z gcdZ (ov neg xs) (ov neg' ys)) (o2E gcdZ (ov neg xs) (ov neg' ys)) w) := by
  rcases hv : vld neg xs with _ | _
  · rw [ov_none hv]
    exact rgcd_bad1 neg neg' A A' n c n' c' xs w h hv
  · rw [ov_some hv]
    rcases hv' : vld neg' ys with _ | _
    · rw [ov_none hv']
      exact rgcd_bad2 neg neg' A A' n c n' c' xs ys w h h' hv hv'
    · rw [ov_some hv']
      have := rgcd_any neg neg' A A' n c n' c' xs ys w h h' hv hv'
      rw [sg_false] at this
      show Calls _ _ _ _ (RetIE (fitZ (gcdZ _ _)) (fitE (gcdZ _ _)) w)
      rw [gcdZ, sg_abs, sg_abs]
      exact this

end Go.Proofs.Ytalgcppogjpilaa

namespace Go.Proofs.Ytalgcppogjpilaa
open Go.RowKit

set_option maxHeartbeats 1000000 in
theorem rcmp_bad1 (neg neg' : Bool) (A A' : Option Addr) (n c n' c' : Nat) (xs ys : List Nat) (w : World) (h : Sl w w.heap.size A n c xs) (h' : Sl w w.heap.size A' n' c' ys) (hv : vld neg xs = false) :
    Calls Try.prog 36 #[.agg #[.bool neg, .slice A n c], .agg #[.bool neg', .slice A' n' c']] w (RetC 0 1 w) := by
  go_enter Try.func36, Try.ntmps36
  go_wp2_with fail
  generalize hW : World.alloc (World.alloc w _) _ = V0
  obtain ⟨hb, ha, hc⟩ := two_boxes neg neg' A A' n c n' c' xs ys w V0 h h' hW
  have hr0 := ha.bx.lt
  have hr1 := hc.bx.lt
  have HB := Lib.hid hb
  clear hW hb h h'
  generalize hr : w.heap.size = r0 at *
  have HR := Lib.hid hr
  clear hr
  refine (rvalid_any _ _ _ _ _ xs _ ha.sl (Nat.le_refl _)).mono ?_
  rintro e w1 ⟨rfl, hb1⟩
  have ga := ha.on hb1
  have gc := hc.on hb1
  have HG := Lib.hid (show Below r0 w w1 from below_chain HB.out (by omega) hb1)
  clear ha hc HB hb1
  rw [hv]
  go_wp2
  exact bodyPost_ret (v := .tuple #[.int .i64 0, .int .i64 1]) (by simp [results, Try.results36, go_sem]) rfl ⟨rfl, by rw [HR.out]; exact HG.out⟩

set_option maxHeartbeats 1000000 in
theorem rcmp_bad2 (neg neg' : Bool) (A A' : Option Addr) (n c n' c' : Nat) (xs ys : List Nat) (w : World) (h : Sl w w.heap.size A n c xs) (h' : Sl w w.heap.size A' n' c' ys) (hv : vld neg xs = true) (hv' : vld neg' ys = false) :
    Calls Try.prog 36 #[.agg #[.bool neg, .slice A n c], .agg #[.bool neg', .slice A' n' c']] w (RetC 0 1 w) := by
  go_enter Try.func36, Try.ntmps36
  go_wp2_with fail
  generalize hW : World.alloc (World.alloc w _) _ = V0
  obtain ⟨hb, ha, hc⟩ := two_boxes neg neg' A A' n c n' c' xs ys w V0 h h' hW
  have hr0 := ha.bx.lt
  have hr1 := hc.bx.lt
  have HB := Lib.hid hb
  clear hW hb h h'
  generalize hr : w.heap.size = r0 at *
  have HR := Lib.hid hr
  clear hr
  refine (rvalid_any _ _ _ _ _ xs _ ha.sl (Nat.le_refl _)).mono ?_
  rintro e w1 ⟨rfl, hb1⟩
  have ga := ha.on hb1
  have gc := hc.on hb1
  have HG := Lib.hid (show Below r0 w w1 from below_chain HB.out (by omega) hb1)
  clear ha hc HB hb1
  have k2 := gc.bx.c0
  have k3 := gc.bx.c1
  rw [hv]
  go_wp2_with fail
  clear k2 k3
  refine (rvalid_any _ _ _ _ _ ys _ gc.sl (Nat.le_refl _)).mono ?_
  rintro e w2 ⟨rfl, hb2⟩
  have ha := ga.on hb2
  have hc := gc.on hb2
  have hr2 := ga.bx.lt
  have HB := Lib.hid (show Below r0 w w2 from below_chain HG.out (by omega) hb2)
  clear ga gc HG hb2
  rw [hv']
  have k0 := ha.bx.c0
  have k1 := ha.bx.c1
  have k2 := hc.bx.c0
  have k3 := hc.bx.c1
  go_wp2
  exact bodyPost_ret (v := .tuple #[.int .i64 0, .int .i64 1]) (by simp [results, Try.results36, go_sem]) rfl ⟨rfl, by rw [HR.out]; exact HB.out⟩

set_option maxHeartbeats 1000000 in
theorem rcmp_tf (A A' : Option Addr) (n c n' c' : Nat) (xs ys : List Nat) (w : World) (h : Sl w w.heap.size A n c xs) (h' : Sl w w.heap.size A' n' c' ys) (hv : vld true xs = true) (hv' : vld false ys = true) :
    Calls Try.prog 36 #[.agg #[.bool true, .slice A n c], .agg #[.bool false, .slice A' n' c']] w (RetC (-1) 0 w) := by
  go_enter Try.func36, Try.ntmps36
  go_wp2_with fail
  generalize hW : World.alloc (World.alloc w _) _ = V0
  obtain ⟨hb, ha, hc⟩ := two_boxes true false A A' n c n' c' xs ys w V0 h h' hW
  have hr0 := ha.bx.lt
  have hr1 := hc.bx.lt
  have HB := Lib.hid hb
  clear hW hb h h'
  generalize hr : w.heap.size = r0 at *
  have HR := Lib.hid hr
  clear hr
  refine (rvalid_any _ _ _ _ _ xs _ ha.sl (Nat.le_refl _)).mono ?_
  rintro e w1 ⟨rfl, hb1⟩
  have ga := ha.on hb1
  have gc := hc.on hb1
  have HG := Lib.hid (show Below r0 w w1 from below_chain HB.out (by omega) hb1)
  clear ha hc HB hb1
  have k2 := gc.bx.c0
  have k3 := gc.bx.c1
  rw [hv]
  go_wp2_with fail
  clear k2 k3
  refine (rvalid_any _ _ _ _ _ ys _ gc.sl (Nat.le_refl _)).mono ?_
  rintro e w2 ⟨rfl, hb2⟩
  have ha := ga.on hb2
  have hc := gc.on hb2
  have hr2 := ga.bx.lt
  have HB := Lib.hid (show Below r0 w w2 from below_chain HG.out (by omega) hb2)
  clear ga gc HG hb2
  rw [hv']
  have k0 := ha.bx.c0
  have k1 := ha.bx.c1
  have k2 := hc.bx.c0
  have k3 := hc.bx.c1
  go_wp2
  exact bodyPost_ret (v := .tuple #[.int .i64 (-1), .int .i64 0]) (by simp [results, Try.results36, go_sem]) rfl ⟨rfl, by rw [HR.out]; exact HB.out⟩

set_option maxHeartbeats 1000000 in
theorem rcmp_ft (A A' : Option Addr) (n c n' c' : Nat) (xs ys : List Nat) (w : World) (h : Sl w w.heap.size A n c xs) (h' : Sl w w.heap.size A' n' c' ys) (hv : vld false xs = true) (hv' : vld true ys = true) :
    Calls Try.prog 36 #[.agg #[.bool false, .slice A n c], .agg #[.bool true, .slice A' n' c']] w (RetC 1 0 w) := by
  go_enter Try.func36, Try.ntmps36
  go_wp2_with fail
  generalize hW : World.alloc (World.alloc w _) _ = V0
  obtain ⟨hb, ha, hc⟩ := two_boxes false true A A' n c n' c' xs ys w V0 h h' hW
  have hr0 := ha.bx.lt
  have hr1 := hc.bx.lt
  have HB := Lib.hid hb
  clear hW hb h h'
  generalize hr : w.heap.size = r0 at *
  have HR := Lib.hid hr
  clear hr
  refine (rvalid_any _ _ _ _ _ xs _ ha.sl (Nat.le_refl _)).mono ?_
  rintro e w1 ⟨rfl, hb1⟩
  have ga := ha.on hb1
  have gc := hc.on hb1
  have HG := Lib.hid (show Below r0 w w1 from below_chain HB.out (by omega) hb1)
  clear ha hc HB hb1
  have k2 := gc.bx.c0
  have k3 := gc.bx.c1
  rw [hv]
  go_wp2_with fail
  clear k2 k3
  refine (rvalid_any _ _ _ _ _ ys _ gc.sl (Nat.le_refl _)).mono ?_
  rintro e w2 ⟨rfl, hb2⟩
  have ha := ga.on hb2
  have hc := gc.on hb2
  have hr2 := ga.bx.lt
  have HB := Lib.hid (show Below r0 w w2 from below_chain HG.out (by omega) hb2)
  clear ga gc HG hb2
  rw [hv']
  have k0 := ha.bx.c0
  have k1 := ha.bx.c1
  have k2 := hc.bx.c0
  have k3 := hc.bx.c1
  go_wp2
  exact bodyPost_ret (v := .tuple #[.int .i64 (1), .int .i64 0]) (by simp [results, Try.results36, go_sem]) rfl ⟨rfl, by rw [HR.out]; exact HB.out⟩

set_option maxHeartbeats 1000000 in
theorem rcmp_tt (A A' : Option Addr) (n c n' c' : Nat) (xs ys : List Nat) (w : World) (h : Sl w w.heap.size A n c xs) (h' : Sl w w.heap.size A' n' c' ys) (hv : vld true xs = true) (hv' : vld true ys = true) :
    Calls Try.prog 36 #[.agg #[.bool true, .slice A n c], .agg #[.bool true, .slice A' n' c']] w (RetC (cmpv (val ys) (val xs)) 0 w) := by
  have Hn := Lib.hid (And.intro (vld_true hv).2.1 (vld_true hv').2.1)
  go_enter Try.func36, Try.ntmps36
  go_wp2_with fail
  generalize hW : World.alloc (World.alloc w _) _ = V0
  obtain ⟨hb, ha, hc⟩ := two_boxes true true A A' n c n' c' xs ys w V0 h h' hW
  have hr0 := ha.bx.lt
  have hr1 := hc.bx.lt
  have HB := Lib.hid hb
  clear hW hb h h'
  generalize hr : w.heap.size = r0 at *
  have HR := Lib.hid hr
  clear hr
  refine (rvalid_any _ _ _ _ _ xs _ ha.sl (Nat.le_refl _)).mono ?_
  rintro e w1 ⟨rfl, hb1⟩
  have ga := ha.on hb1
  have gc := hc.on hb1
  have HG := Lib.hid (show Below r0 w w1 from below_chain HB.out (by omega) hb1)
  clear ha hc HB hb1
  have k2 := gc.bx.c0
  have k3 := gc.bx.c1
  rw [hv]
  go_wp2_with fail
  clear k2 k3
  refine (rvalid_any _ _ _ _ _ ys _ gc.sl (Nat.le_refl _)).mono ?_
  rintro e w2 ⟨rfl, hb2⟩
  have ha := ga.on hb2
  have hc := gc.on hb2
  have hr2 := ga.bx.lt
  have HB := Lib.hid (show Below r0 w w2 from below_chain HG.out (by omega) hb2)
  clear ga gc HG hb2
  rw [hv']
  have k0 := ha.bx.c0
  have k1 := ha.bx.c1
  have k2 := hc.bx.c0
  have k3 := hc.bx.c1
  go_wp2_with fail
  refine (rorder_any _ _ _ _ _ _ _ _ _ _ _ hc.sl ha.sl Hn.out.2 Hn.out.1).mono ?_
  rintro e w3 ⟨rfl, q, rfl⟩
  go_wp2
  exact bodyPost_ret (v := .tuple #[.int .i64 (cmpv (val ys) (val xs)), .int .i64 0]) (by simp [results, Try.results36, go_sem]) rfl ⟨rfl, by rw [HR.out]; exact below_drewN HB.out _⟩

set_option maxHeartbeats 1000000 in
theorem rcmp_ff (A A' : Option Addr) (n c n' c' : Nat) (xs ys : List Nat) (w : World) (h : Sl w w.heap.size A n c xs) (h' : Sl w w.heap.size A' n' c' ys) (hv : vld false xs = true) (hv' : vld false ys = true) :
    Calls Try.prog 36 #[.agg #[.bool false, .slice A n c], .agg #[.bool false, .slice A' n' c']] w (RetC (cmpv (val xs) (val ys)) 0 w) := by
  have Hn := Lib.hid (And.intro (vld_true hv).2.1 (vld_true hv').2.1)
  go_enter Try.func36, Try.ntmps36
  go_wp2_with fail
  generalize hW : World.alloc (World.alloc w _) _ = V0
  obtain ⟨hb, ha, hc⟩ := two_boxes false false A A' n c n' c' xs ys w V0 h h' hW
  have hr0 := ha.bx.lt
  have hr1 := hc.bx.lt
  have HB := Lib.hid hb
  clear hW hb h h'
  generalize hr : w.heap.size = r0 at *
  have HR := Lib.hid hr
  clear hr
  refine (rvalid_any _ _ _ _ _ xs _ ha.sl (Nat.le_refl _)).mono ?_
  rintro e w1 ⟨rfl, hb1⟩
  have ga := ha.on hb1
  have gc := hc.on hb1
  have HG := Lib.hid (show Below r0 w w1 from below_chain HB.out (by omega) hb1)
  clear ha hc HB hb1
  have k2 := gc.bx.c0
  have k3 := gc.bx.c1
  rw [hv]
  go_wp2_with fail
  clear k2 k3
  refine (rvalid_any _ _ _ _ _ ys _ gc.sl (Nat.le_refl _)).mono ?_
  rintro e w2 ⟨rfl, hb2⟩
  have ha := ga.on hb2
  have hc := gc.on hb2
  have hr2 := ga.bx.lt
  have HB := Lib.hid (show Below r0 w w2 from below_chain HG.out (by omega) hb2)
  clear ga gc HG hb2
  rw [hv']
  have k0 := ha.bx.c0
  have k1 := ha.bx.c1
  have k2 := hc.bx.c0
  have k3 := hc.bx.c1
  go_wp2_with fail
  refine (rorder_any _ _ _ _ _ _ _ _ _ _ _ ha.sl hc.sl Hn.out.1 Hn.out.2).mono ?_
  rintro e w3 ⟨rfl, q, rfl⟩
  go_wp2
  exact bodyPost_ret (v := .tuple #[.int .i64 (cmpv (val xs) (val ys)), .int .i64 0]) (by simp [results, Try.results36, go_sem]) rfl ⟨rfl, by rw [HR.out]; exact below_drewN HB.out _⟩

theorem rcmp_any (neg neg' : Bool) (A A' : Option Addr) (n c n' c' : Nat) (xs ys : List Nat) (w : World) (h : Sl w w.heap.size A n c xs) (h' : Sl w w.heap.size A' n' c' ys) :
    Calls Try.prog 36 #[.agg #[.bool neg, .slice A n c], .agg #[.bool neg', .slice A' n' c']] w
      (RetC (cmpZ (vld neg xs && vld neg' ys) (sg neg (val xs) - sg neg' (val ys))) (cmpE (vld neg xs && vld neg' ys)) w) := by
  rcases hv : vld neg xs with _ | _
  · exact rcmp_bad1 neg neg' A A' n c n' c' xs ys w h h' hv
  · rcases hv' : vld neg' ys with _ | _
    · exact rcmp_bad2 neg neg' A A' n c n' c' xs ys w h h' hv hv'
    · show Calls _ _ _ _ (RetC (Int.sign (sg neg (val xs) - sg neg' (val ys))) 0 w)
      have px : neg = true → 0 < val xs := fun e => val_pos (vld_true hv).2.1 (fun e' => by have := (vld_true hv).2.2 e'; rw [e] at this; cases this)
      have py : neg' = true → 0 < val ys := fun e => val_pos (vld_true hv').2.1 (fun e' => by have := (vld_true hv').2.2 e'; rw [e] at this; cases this)
      cases neg <;> cases neg'
      · have := rcmp_ff A A' n c n' c' xs ys w h h' hv hv'
        rwa [cmpv_sign] at this
      · have := rcmp_ft A A' n c n' c' xs ys w h h' hv hv'
        rwa [show (1 : Int) = Int.sign (sg false (val xs) - sg true (val ys)) by
          have := py rfl
          rw [sg_true, sg_false, Int.sign_eq_one_of_pos (by omega)]] at this
      · have := rcmp_tf A A' n c n' c' xs ys w h h' hv hv'
        rwa [show (-1 : Int) = Int.sign (sg true (val xs) - sg false (val ys)) by
          have := px rfl
          rw [sg_true, sg_false, Int.sign_eq_neg_one_of_neg (by omega)]] at this
      · have := rcmp_tt A A' n c n' c' xs ys w h h' hv hv'
        rwa [cmpv_sign, show ((val ys : Int) - val xs) = sg true (val xs) - sg true (val ys) by rw [sg_true, sg_true]; omega] at this

end Go.Proofs.Ytalgcppogjpilaa

namespace Go.Proofs.Ytalgcppogjpilaa
open Go.RowKit

set_option maxRecDepth 20000 in
set_option maxHeartbeats 4000000 in
theorem divisors_walk (neg neg' : Bool) (A A' : Option Addr) (n c n' c' : Nat) (xs ys : List Nat) (w : World) (h : Sl w w.heap.size A n c xs) (h' : Sl w w.heap.size A' n' c' ys) (z e cz ce : Int)
    (C1 : Hid (On2 33 neg neg' A A' n c n' c' xs ys z e)) (C2 : Hid (On2 34 neg neg' A A' n c n' c' xs ys z e))
    (C3 : Hid (∀ w : World, Sl w w.heap.size A n c xs → Sl w w.heap.size A' n' c' ys → Calls Try.prog 35 #[.agg #[.bool neg, .slice A n c], .agg #[.bool neg', .slice A' n' c']] w (RetC cz ce w))) (C4 : Hid (∀ w : World, Sl w w.heap.size A n c xs → Sl w w.heap.size A' n' c' ys → Calls Try.prog 36 #[.agg #[.bool neg, .slice A n c], .agg #[.bool neg', .slice A' n' c']] w (RetC cz ce w))) :
    Calls Try.prog 7 #[.agg #[.bool neg, .slice A n c], .agg #[.bool neg', .slice A' n' c']] w (fun e w' => e = .returned (.bool true) ∧ Below w.heap.size w w') := by
  have hee : (e == e) = true := by simp
  have hce : (ce == ce) = true := by simp
  have hcz : (cz == cz) = true := by simp
  go_enter Try.func7, Try.ntmps7
  go_wp2_with fail
  generalize hW : World.alloc (World.alloc w _) _ = V
  obtain ⟨hb, a, b⟩ := two_boxes neg neg' A A' n c n' c' xs ys w V h h' hW
  have HB := Lib.hid hb
  clear hW hb h h'
  generalize hr0 : w.heap.size = r0 at *
  have HR := Lib.hid hr0
  clear hr0
  have ka0 := a.bx.c0
  have ka1 := a.bx.c1
  have kb0 := b.bx.c0
  have kb1 := b.bx.c1
  have la := a.bx.lt
  have lb := b.bx.lt
  go_wp2_with fail
  clear ka0 ka1 la kb0 kb1 lb
  refine (C1.out _ a.sl b.sl).mono ?_
  rintro e w1 ⟨A1, n1, c1, xs1, rfl, hs1, hx1, hv1, hbn⟩
  replace a := a.on hbn
  replace b := b.on hbn
  replace HB := Lib.hid (show Below r0 w w1 from below_chain HB.out (by have := HR.out; have := HB.out.size; omega) hbn)
  clear hbn
  have F1 := Lib.hid (And.intro hx1 hv1)
  clear hx1 hv1
  have ka0 := a.bx.c0
  have ka1 := a.bx.c1
  have kb0 := b.bx.c0
  have kb1 := b.bx.c1
  have la := a.bx.lt
  have lb := b.bx.lt
  go_wp2_with fail
  clear ka0 ka1 la kb0 kb1 lb
  generalize hW : World.alloc w1 _ = V1
  have x : Ba V1 w1.heap.size (decide (z < 0)) A1 n1 c1 xs1 := by rw [← hW]; exact ⟨Bx.new _ _ _ _ _, hs1.on (below_new _ _)⟩
  replace a : Ba V1 (r0) (neg) A n c xs := by rw [← hW]; exact a.on (below_new _ _)
  replace b : Ba V1 (r0 + 1) (neg') A' n' c' ys := by rw [← hW]; exact b.on (below_new _ _)
  replace HB := Lib.hid (show Below r0 w V1 by rw [← hW]; exact HB.out.alloc (by have := HR.out; have := HB.out.size; omega) _)
  clear hW hs1
  generalize w1.heap.size = r1 at *
  refine (C2.out _ a.sl b.sl).mono ?_
  rintro e w2 ⟨A2, n2, c2, xs2, rfl, hs2, hx2, hv2, hbn⟩
  replace a := a.on hbn
  replace b := b.on hbn
  replace x := x.on hbn
  replace HB := Lib.hid (show Below r0 w w2 from below_chain HB.out (by have := HR.out; have := HB.out.size; omega) hbn)
  clear hbn
  have F2 := Lib.hid (And.intro hx2 hv2)
  clear hx2 hv2
  have ka0 := a.bx.c0
  have ka1 := a.bx.c1
  have kb0 := b.bx.c0
  have kb1 := b.bx.c1
  have la := a.bx.lt
  have lb := b.bx.lt
  go_wp2_with fail
  clear ka0 ka1 la kb0 kb1 lb
  generalize hW : World.alloc w2 _ = V2
  have y : Ba V2 w2.heap.size (decide (z < 0)) A2 n2 c2 xs2 := by rw [← hW]; exact ⟨Bx.new _ _ _ _ _, hs2.on (below_new _ _)⟩
  replace a : Ba V2 (r0) (neg) A n c xs := by rw [← hW]; exact a.on (below_new _ _)
  replace b : Ba V2 (r0 + 1) (neg') A' n' c' ys := by rw [← hW]; exact b.on (below_new _ _)
  replace x : Ba V2 (r1) (decide (z < 0)) A1 n1 c1 xs1 := by rw [← hW]; exact x.on (below_new _ _)
  replace HB := Lib.hid (show Below r0 w V2 by rw [← hW]; exact HB.out.alloc (by have := HR.out; have := HB.out.size; omega) _)
  clear hW hs2
  generalize w2.heap.size = r2 at *
  refine (C3.out _ a.sl b.sl).mono ?_
  rintro e w3 ⟨rfl, hbn⟩
  replace a := a.on hbn
  replace b := b.on hbn
  replace x := x.on hbn
  replace y := y.on hbn
  replace HB := Lib.hid (show Below r0 w w3 from below_chain HB.out (by have := HR.out; have := HB.out.size; omega) hbn)
  clear hbn
  have ka0 := a.bx.c0
  have ka1 := a.bx.c1
  have kb0 := b.bx.c0
  have kb1 := b.bx.c1
  have la := a.bx.lt
  have lb := b.bx.lt
  go_wp2_with fail
  clear ka0 ka1 la kb0 kb1 lb
  refine (C4.out _ a.sl b.sl).mono ?_
  rintro e w4 ⟨rfl, hbn⟩
  replace a := a.on hbn
  replace b := b.on hbn
  replace x := x.on hbn
  replace y := y.on hbn
  replace HB := Lib.hid (show Below r0 w w4 from below_chain HB.out (by have := HR.out; have := HB.out.size; omega) hbn)
  clear hbn
  go_wp2_with fail
  refine (works_any _).mono ?_
  rintro e w5 ⟨rfl, hbn⟩
  replace a := a.on hbn
  replace b := b.on hbn
  replace x := x.on hbn
  replace y := y.on hbn
  replace HB := Lib.hid (show Below r0 w w5 from below_chain HB.out (by have := HR.out; have := HB.out.size; omega) hbn)
  clear hbn
  have kx0 := x.bx.c0
  have kx1 := x.bx.c1
  have ky0 := y.bx.c0
  have ky1 := y.bx.c1
  have lx := x.bx.lt
  have ly := y.bx.lt
  go_wp2_with fail
  clear kx0 kx1 lx ky0 ky1 ly
  refine (lsame_yes _ _ _ _ _ _ _ _ _ _ _ x.sl y.sl rfl (uniq x.sl.ok y.sl.ok F1.out.1 F2.out.1 (F1.out.2.trans F2.out.2.symm))).mono ?_
  rintro e w6 ⟨rfl, hbn⟩
  replace a := a.on hbn
  replace b := b.on hbn
  replace x := x.on hbn
  replace y := y.on hbn
  replace HB := Lib.hid (show Below r0 w w6 from below_chain HB.out (by have := HR.out; have := HB.out.size; omega) hbn)
  clear hbn
  go_wp2
  go_ret
  exact ⟨rfl, HR.out ▸ HB.out⟩

theorem integerDivisors_any (neg neg' : Bool) (A A' : Option Addr) (n c n' c' : Nat) (xs ys : List Nat) (w : World) (h : Sl w w.heap.size A n c xs) (h' : Sl w w.heap.size A' n' c' ys) :
    Calls Try.prog 7 #[.agg #[.bool neg, .slice A n c], .agg #[.bool neg', .slice A' n' c']] w fun e w' => e = .returned (.bool true) ∧ Below w.heap.size w w' :=
  divisors_walk neg neg' A A' n c n' c' xs ys w h h' _ _ _ _ (fun _ h h' => gcd_ov h h') (fun _ h h' => rgcd_ov h h') (fun w h h' => cmp_any neg neg' A A' n c n' c' xs ys w h h') (fun w h h' => rcmp_any neg neg' A A' n c n' c' xs ys w h h')

end Go.Proofs.Ytalgcppogjpilaa
