/-
  RootN, RefSqrt, LawRoots, merged.
-/
import Derived.Test.YtalgcppogjpilaaRefBits
import Derived.Deep.DeepCutAuto
import Derived.Deep.RegionHeld3
import Derived.Test.YtalgcppogjpilaaSqrtZ
import Derived.Test.YtalgcppogjpilaaFit
import Derived.Test.YtalgcppogjpilaaShift
import Derived.Test.YtalgcppogjpilaaLawSums

namespace Go.Proofs.Ytalgcppogjpilaa
open Go.RowKit

/-- R is the root of Q and T the rest. -/
def RootOf (Q R T : Nat) : Prop := R * R + T = Q ∧ T ≤ 2 * R

theorem root_digits (N j : Nat) : N / 2 ^ (2 * j) = 4 * (N / 2 ^ (2 * j + 2)) + 2 * (N / 2 ^ (2 * j + 1) % 2) + N / 2 ^ (2 * j) % 2 := by
  have a : N / 2 ^ (2 * j + 1) = N / 2 ^ (2 * j) / 2 := by rw [Nat.pow_succ, Nat.div_div_eq_div_mul]
  have b : N / 2 ^ (2 * j + 2) = N / 2 ^ (2 * j) / 2 / 2 := by rw [Nat.pow_succ, ← Nat.div_div_eq_div_mul, a]
  rw [b, a]
  omega
theorem root_more {Q R T d1 d0 : Nat} (h : RootOf Q R T) (h1 : d1 ≤ 1) (h0 : d0 ≤ 1) (hle : 4 * R + 1 ≤ 2 * (2 * T + d1) + d0) : RootOf (4 * Q + 2 * d1 + d0) (2 * R + 1) (2 * (2 * T + d1) + d0 - (4 * R + 1)) := by
  obtain ⟨e, l⟩ := h
  have q : (2 * R + 1) * (2 * R + 1) = 4 * (R * R) + 4 * R + 1 := by
    rw [Nat.add_mul, Nat.mul_add, Nat.one_mul, Nat.mul_one, Nat.mul_assoc 2 R (2 * R), Nat.mul_left_comm R 2 R]; omega
  refine ⟨?_, by omega⟩
  rw [q]; generalize R * R = z at *; omega
theorem root_less {Q R T d1 d0 : Nat} (h : RootOf Q R T) (hlt : 2 * (2 * T + d1) + d0 < 4 * R + 1) : RootOf (4 * Q + 2 * d1 + d0) (2 * R) (2 * (2 * T + d1) + d0) := by
  obtain ⟨e, l⟩ := h
  have q : (2 * R) * (2 * R) = 4 * (R * R) := by rw [Nat.mul_assoc 2 R (2 * R), Nat.mul_left_comm R 2 R]; omega
  refine ⟨?_, by omega⟩
  rw [q]; generalize R * R = z at *; omega
/-- The root at the end: its square is at most N, and the rest is 0 if and only if it is exact. -/
theorem root_end {N R T : Nat} (h : RootOf N R T) : R * R ≤ N ∧ N < (R + 1) * (R + 1) ∧ (T = 0 ↔ R * R = N) := by
  obtain ⟨e, l⟩ := h
  have q : (R + 1) * (R + 1) = R * R + 2 * R + 1 := by rw [Nat.add_mul, Nat.mul_add, Nat.one_mul, Nat.mul_one]; omega
  rw [q]
  generalize R * R = z at *
  omega

end Go.Proofs.Ytalgcppogjpilaa

namespace Go.Proofs.Ytalgcppogjpilaa
open Go.RowKit

set_option maxHeartbeats 1000000 in
theorem rsqrt_bad (neg : Bool) (A : Option Addr) (n c : Nat) (xs : List Nat) (w : World) (h : Sl w w.heap.size A n c xs) (hv : vld neg xs = false) :
    Calls Try.prog 38 #[.agg #[.bool neg, .slice A n c]] w (RetSq 0 false 1 w) := by
  go_enter Try.func38, Try.ntmps38
  go_wp2_with fail
  generalize hW : World.alloc (World.alloc w _) _ = W
  obtain ⟨hb, hz, b0, b1⟩ := one_boxes neg A n c w W hW
  have hs := h.on hb
  clear hW
  refine (rvalid_any _ _ _ _ _ xs _ hs (Nat.le_refl _)).mono ?_
  rintro e w1 ⟨rfl, hb1⟩
  have hz1 : w.heap.size + 1 < w1.heap.size := by have := hb1.size; omega
  have b1 := b1.below hb1 (by omega)
  have hb := below_chain hb (by omega) hb1
  clear hb1
  have k3 := b1.c0
  have k4 := b1.c1
  have k5 := b1.f 0
  have k6 := b1.f 1
  generalize hr : w.heap.size = r at *
  have HRW := Lib.hid (And.intro hb hr)
  clear hb hr
  go_wp2
  exact bodyPost_ret (v := .tuple #[.agg #[.bool false, .slice none 0 0], .bool false, .int .i64 1]) (by simp [results, Try.results38, go_sem, k3, k4]) rfl
    ⟨none, 0, 0, [], rfl, Sl.nil _ _, Nz.nil, rfl, by rw [HRW.out.2]; exact below_ret HRW.out.1 (show r ≤ r + 1 by omega) _ _⟩

set_option maxHeartbeats 1000000 in
theorem rsqrt_neg (A : Option Addr) (n c : Nat) (xs : List Nat) (w : World) (h : Sl w w.heap.size A n c xs) (hv : vld true xs = true) :
    Calls Try.prog 38 #[.agg #[.bool true, .slice A n c]] w (RetSq 0 false 5 w) := by
  go_enter Try.func38, Try.ntmps38
  go_wp2_with fail
  generalize hW : World.alloc (World.alloc w _) _ = W
  obtain ⟨hb, hz, b0, b1⟩ := one_boxes true A n c w W hW
  have hs := h.on hb
  clear hW
  refine (rvalid_any _ _ _ _ _ xs _ hs (Nat.le_refl _)).mono ?_
  rintro e w1 ⟨rfl, hb1⟩
  have hz1 : w.heap.size + 1 < w1.heap.size := by have := hb1.size; omega
  have b0 := b0.below hb1 (by omega)
  have b1 := b1.below hb1 (by omega)
  have hb := below_chain hb (by omega) hb1
  clear hb1
  have k0 := b0.c0
  have k3 := b1.c0
  have k4 := b1.c1
  have k5 := b1.f 0
  have k6 := b1.f 1
  generalize hr : w.heap.size = r at *
  have HRW := Lib.hid (And.intro hb hr)
  clear hb hr
  go_wp2
  exact bodyPost_ret (v := .tuple #[.agg #[.bool false, .slice none 0 0], .bool false, .int .i64 5]) (by simp [results, Try.results38, go_sem, k3, k4]) rfl
    ⟨none, 0, 0, [], rfl, Sl.nil _ _, Nz.nil, rfl, by rw [HRW.out.2]; exact below_ret HRW.out.1 (show r ≤ r + 1 by omega) _ _⟩


theorem len_sm {w : World} {A : Option Addr} {n c B : Nat} {xs : List Nat} (h : Sl w B A n c xs) (hx : Nz xs) (hb : val xs < 4294967296 * BIG) : n ≤ 1000000 := by
  have a := length_le hx (n := 129) (by rw [Nat.pow_succ, Nat.mul_comm]; exact hb)
  have b := h.len
  omega
def SqMidR (q : Nat) (wr : World) (s6 : Value) (wx : World) : Prop := ∃ (A : Option Addr) (n c : Nat) (z : List Nat), s6 = .slice A n c ∧ Sl wx wx.heap.size A n c z ∧ Nz z ∧ val z = q ∧ Below wr.heap.size wr wx


set_option maxHeartbeats 4000000 in
theorem rsqrt_good (A : Option Addr) (n c : Nat) (xs : List Nat) (w : World) (h : Sl w w.heap.size A n c xs) (hv : vld false xs = true) (s N : Nat) (b : Bool) (hN : val xs = N) (hs1 : s * s ≤ N) (hs2 : N < (s + 1) * (s + 1)) (hb9 : decide (s * s = N) = b) :
    Calls Try.prog 38 #[.agg #[.bool false, .slice A n c]] w (RetSq (sg false s) b 0 w) := by
  have Hg := Lib.hid (vld_true hv)
  have hn : n ≤ 1000000 := by have := h.len; have := Hg.out.1; omega
  have hlt : N < BIG := by rw [← hN]; exact (big_iff h.ok (vld_true hv).2.1).2 (vld_true hv).1
  have hD1 := nbits_lt N
  have hD2 : nbits N ≤ 4096 := (nbits_pw _ _).2 (by rw [← big_pw]; exact hlt)
  have HN := Lib.hid (And.intro hN (And.intro hs1 (And.intro hs2 hb9)))
  have HL := Lib.hid hlt
  clear hN hs1 hs2 hb9 hlt
  generalize hD : nbits N = D at *
  have HD := Lib.hid (And.intro hD hD1)
  clear hD hD1
  go_enter Try.func38, Try.ntmps38
  go_wp2_with fail
  generalize hW : World.alloc (World.alloc w _) _ = W
  obtain ⟨hb, hz, b0, b1⟩ := one_boxes false A n c w W hW
  have hs := h.on hb
  clear hW
  refine (rvalid_any _ _ _ _ _ xs _ hs (Nat.le_refl _)).mono ?_
  rintro e w1 ⟨rfl, hb1⟩
  have hz1 : w.heap.size + 1 < w1.heap.size := by have := hb1.size; omega
  have b0 := b0.below hb1 (by omega)
  have b1 := b1.below hb1 (by omega)
  have hs := hs.on hb1
  have hb := below_chain hb (by omega) hb1
  clear hb1 hz hz1
  generalize hr : w.heap.size = r at *
  have Hr := Lib.hid hr
  clear hr
  have k0 := b0.c0
  have k1 := b0.c1
  go_wp2_with fail
  refine (rdigits_any _ _ _ _ _ _ hs Hg.out.2.1 hn).mono ?_
  rintro e w2 ⟨rfl, rfl⟩
  rw [HN.out.1, HD.out.1]
  go_wp2_with fail
  go_loopg [5, 6, 7, 8] ((D + 1) / 2) (fun g s5 s6 s7 _ wr => ∃ (A5 : Option Addr) (n5 c5 : Nat) (z5 : List Nat) (A6 : Option Addr) (n6 c6 : Nat) (z6 : List Nat) (i : Nat), s5 = .slice A5 n5 c5 ∧ s6 = .slice A6 n6 c6 ∧ s7 = .int .i64 (i : Int) ∧ i = g ∧ i ≤ 3000 ∧
    Sl wr wr.heap.size A5 n5 c5 z5 ∧ Sl wr wr.heap.size A6 n6 c6 z6 ∧ Hid (Nz z5) ∧ Hid (Nz z6) ∧ Hid (RootOf (N / 2 ^ (2 * i)) (val z5) (val z6)) ∧ Hid (Bx wr r false A n c) ∧ Hid (Bx wr (r + 1) false none 0 0) ∧ Hid (Sl wr wr.heap.size A n c xs) ∧ Hid (Below r w wr))
  case atStart =>
    refine ⟨none, 0, 0, [], none, 0, 0, [], (D + 1) / 2, rfl, rfl, by go_num, rfl, by omega, Sl.nil _ _, Sl.nil _ _, Nz.nil, Nz.nil, ?_, b0, b1, hs, hb⟩
    have e : N / 2 ^ (2 * ((D + 1) / 2)) = 0 := Nat.div_eq_of_lt (Nat.lt_of_lt_of_le HD.out.2 (Nat.pow_le_pow_right (by decide) (by omega)))
    rw [Hid, e]
    exact ⟨rfl, Nat.le_refl _⟩
  case round =>
    clear hs b0 b1 hb k0 k1
    obtain ⟨A5, n5, c5, z5, A6, n6, c6, z6, i, rfl, rfl, rfl, rfl, hi, hs5, hs6, Hz5, Hz6, Hrt, Hb0, Hb1, Hsx, HBr⟩ := hrel
    have hq : N / 2 ^ (2 * i) < BIG := Nat.lt_of_le_of_lt (Nat.div_le_self _ _) HL.out
    have h5b : val z5 ≤ N / 2 ^ (2 * i) := by
      have e := Hrt.out.1
      rcases Nat.eq_zero_or_pos (val z5) with h0 | h0
      · omega
      · have := Nat.le_mul_of_pos_left (val z5) h0
        omega
    have hn5 := len_sm hs5 Hz5.out (by omega)
    have hn6 := len_sm hs6 Hz6.out (by have := Hrt.out.1; omega)
    have H5b := Lib.hid (And.intro hq h5b)
    clear hq h5b
    by_cases hi0 : 0 < i
    · obtain ⟨j, rfl⟩ : ∃ j, i = j + 1 := ⟨i - 1, by omega⟩
      have hge : 0 < ((j + 1 : Nat) : Int) := by omega
      obtain ⟨d1, hd1⟩ : ∃ d, N / 2 ^ (2 * j + 1) % 2 = d := ⟨_, rfl⟩
      obtain ⟨d0, hd0⟩ : ∃ d, N / 2 ^ (2 * j) % 2 = d := ⟨_, rfl⟩
      have h1 : d1 ≤ 1 := by omega
      have h0 : d0 ≤ 1 := by omega
      have HN4 := Lib.hid (show N / 2 ^ (2 * j) = 4 * (N / 2 ^ (2 * (j + 1))) + 2 * d1 + d0 by have := root_digits N j; rw [hd1, hd0] at this; exact this)
      generalize hX : val z5 = X at *
      generalize hT : val z6 = T at *
      have HXT := Lib.hid (And.intro hX hT)
      have Hd := Lib.hid (And.intro hd1 hd0)
      clear hX hT hd1 hd0
      obtain ⟨p0, hp0⟩ : ∃ p : Nat, p = 2 * j := ⟨_, rfl⟩
      obtain ⟨p1, hp1⟩ : ∃ p : Nat, p = 2 * j + 1 := ⟨_, rfl⟩
      obtain ⟨p2, hp2⟩ : ∃ p : Nat, p = 2 * j + 2 := ⟨_, rfl⟩
      have C1 : ∀ (W : World) (B : Nat) (z : Int), Sl W B A n c xs → z = (p1 : Int) → Calls Try.prog 69 #[.slice A n c, .int .i64 z] W fun e w' => e = .returned (.int .u32 (d1 : Int)) ∧ w' = W := fun W B z hW hz => by
        subst hz
        exact rbit_any A n c B p1 (p1 / 32) (p1 % 32) d1 xs W hW (by omega) (by omega) (by omega) (by rw [HN.out.1, hp1]; exact Hd.out.1)
      have C0 : ∀ (W : World) (B : Nat) (z : Int), Sl W B A n c xs → z = (p0 : Int) → Calls Try.prog 69 #[.slice A n c, .int .i64 z] W fun e w' => e = .returned (.int .u32 (d0 : Int)) ∧ w' = W := fun W B z hW hz => by
        subst hz
        exact rbit_any A n c B p0 (p0 / 32) (p0 % 32) d0 xs W hW (by omega) (by omega) (by omega) (by rw [HN.out.1, hp0]; exact Hd.out.2)
      have HC := Lib.hid (And.intro C1 C0)
      clear C1 C0
      have HP := Lib.hid (show IntKind.i64.wrap (IntKind.i64.wrap (2 * ((j : Int) + 1)) - 1) = (p1 : Int) ∧ IntKind.i64.wrap (IntKind.i64.wrap (2 * ((j : Int) + 1)) - 2) = (p0 : Int) from by
        have e : IntKind.i64.wrap (2 * ((j : Int) + 1)) = (p2 : Int) := (IntWalk.i64_in _ (by omega)).trans (by omega)
        rw [e]
        exact ⟨(IntWalk.i64_in _ (by omega)).trans (by omega), (IntWalk.i64_in _ (by omega)).trans (by omega)⟩)
      clear hp0 hp1 hp2
      have k1 := Hb0.out.c1
      have k1d := (show Bx wr.drew r false A n c from Hb0.out).c1
      have q1 := World.new_ne _ _ k1
      go_upto_region 10 with fail
      go_cut [6] (fun s6 wx => SqMidR (2 * (2 * T + d1) + d0) wr s6 wx)
      case first =>
        go_region_held3 (fun w' => w'.cell? ⟨r, 1, none⟩ = some (.slice A n c))
          (first | exact k1d | exact k1 | go_keep)
          (first
            | (go_at_call 69
               ((with_reducible refine (HC.out.1 _ _ _ Hsx.out.drew HP.out.1).mono ?_)
                rintro e v1 ⟨rfl, rfl⟩))
            | (go_at_call 69
               ((with_reducible refine (HC.out.2 _ _ _ hxa HP.out.2).mono ?_)
                rintro e v1 ⟨rfl, rfl⟩))
            | (go_at_call 75
               ((with_reducible refine (rdouble_any _ _ _ d1 z6 _ hs6.drew hn6 h1).mono ?_)
                rintro e v2 ⟨A7, n7, c7, z7, rfl, hs7, hz7, hv7, hb7d⟩
                have hb7 := below_undrew hb7d
                rw [HXT.out.2] at hv7
                have H7 := Lib.hid (And.intro hv7 hz7)
                have hxa := Hsx.out.on hb7
                have hn7 := len_sm hs7 hz7 (by rw [hv7]; have := H5b.out; have := Hrt.out.2; omega)
                have b0 := Hb0.out.below hb7 Hb0.out.lt
                have k1 := b0.c1
                have Hbx2 := Lib.hid b0
                have H7b := Lib.hid hb7
                clear hb7 hb7d hv7 hz7 b0))
            | (go_at_call 75
               ((with_reducible refine (rdouble_any _ _ _ d0 z7 _ hs7 hn7 h0).mono ?_)
                rintro e v3 ⟨A8, n8, c8, z8, rfl, hs8, hz8, hv8, hb8⟩
                rw [H7.out.1] at hv8
                have H8 := Lib.hid (And.intro hv8 hz8)
                have HB8 := Lib.hid (below_chain H7b.out H7b.out.size hb8)
                have k1 := (Hbx2.out.below hb8 Hbx2.out.lt).c1
                clear hb8 hv8 hz8)))
        all_goals (go_wp2_with fail; go_meet; exact ⟨_, _, _, _, rfl, hs8, H8.out.2, H8.out.1, HB8.out⟩)
      case rest =>
      obtain ⟨A7, n7, c7, z7, rfl, hs7, hz7, hv7, hb7⟩ := hcut
      clear k1 k1d q1 hs6
      have HV7 := Lib.hid hv7
      have b0 := Hb0.out.below hb7 Hb0.out.lt
      have b1 := Hb1.out.below hb7 Hb1.out.lt
      have hsx := Hsx.out.on hb7
      have hs5 := hs5.on hb7
      have HB7 := Lib.hid (below_chain HBr.out (Nat.le_of_lt Hb0.out.lt) hb7)
      clear hv7 hb7 Hsx
      have K0 : ∀ (A : Option Addr) (n c : Nat) (z : List Nat) (W : World), Sl W W.heap.size A n c z → n ≤ 1000000 → Calls Try.prog 75 #[.slice A n c, .int .u32 0] W (RetNum (2 * val z + 0) W) := fun A n c z W hW hn => rdouble_any A n c 0 z W hW hn (by omega)
      have K1 : ∀ (A : Option Addr) (n c : Nat) (z : List Nat) (W : World), Sl W W.heap.size A n c z → n ≤ 1000000 → Calls Try.prog 75 #[.slice A n c, .int .u32 1] W (RetNum (2 * val z + 1) W) := fun A n c z W hW hn => rdouble_any A n c 1 z W hW hn (by omega)
      have HK := Lib.hid (And.intro K0 K1)
      clear K0 K1
      go_wp2_with fail
      refine (HK.out.1 _ _ _ z5 _ hs5 hn5).mono ?_
      rintro e w3 ⟨A8, n8, c8, z8, rfl, hs8, hz8, hv8, hb8⟩
      rw [HXT.out.1] at hv8
      have hn8 := len_sm hs8 hz8 (by rw [hv8]; have := H5b.out; omega)
      have HV8 := Lib.hid hv8
      have b0 := b0.below hb8 b0.lt
      have b1 := b1.below hb8 b1.lt
      have hsx := hsx.on hb8
      have hs5 := hs5.on hb8
      have hs7 := hs7.on hb8
      have HB8 := Lib.hid (below_chain HB7.out (by have := Hr.out; have := HB7.out.size; omega) hb8)
      clear hv8 hb8
      go_wp2_with fail
      refine (HK.out.2 _ _ _ z8 _ hs8 hn8).mono ?_
      rintro e w4 ⟨A9, n9, c9, z9, rfl, hs9, hz9, hv9, hb9⟩
      rw [HV8.out] at hv9
      have HV9 := Lib.hid (show val z9 = 4 * X + 1 by omega)
      have b0 := b0.below hb9 b0.lt
      have b1 := b1.below hb9 b1.lt
      have hsx := hsx.on hb9
      have hs5 := hs5.on hb9
      have hs7 := hs7.on hb9
      have HB9 := Lib.hid (below_chain HB8.out (by have := Hr.out; have := HB8.out.size; omega) hb9)
      clear hv9 hb9 hs8 hz8 hn8
      go_wp2_with fail
      refine (rorder_any _ _ _ _ _ _ _ _ z7 z9 _ hs7 hs9 hz7 hz9).mono ?_
      rintro e w5 ⟨rfl, q, rfl⟩
      rw [HV7.out, HV9.out]
      replace b0 := b0.drewN q
      replace b1 := b1.drewN q
      have hsx : Sl (w4.drewN q) (w4.drewN q).heap.size A n c xs := hsx.drewN q
      have hs5 : Sl (w4.drewN q) (w4.drewN q).heap.size A5 n5 c5 z5 := hs5.drewN q
      have hs7 : Sl (w4.drewN q) (w4.drewN q).heap.size A7 n7 c7 z7 := hs7.drewN q
      have hs9 : Sl (w4.drewN q) (w4.drewN q).heap.size A9 n9 c9 z9 := hs9.drewN q
      have HB10 := Lib.hid (below_drewN HB9.out q)
      clear HB7 HB8 HB9
      generalize w4.drewN q = V at *
      have HQ := Lib.hid Hrt.out
      clear Hrt
      have hmul : 2 * (j + 1) = 2 * j + 2 := by omega
      by_cases hle : 4 * X + 1 ≤ 2 * (2 * T + d1) + d0
      · have hc : 0 ≤ cmpv (2 * (2 * T + d1) + d0) (4 * X + 1) := by
          rcases Nat.lt_or_ge (4 * X + 1) (2 * (2 * T + d1) + d0) with h1 | h1
          · rw [cmpv_gt h1]; omega
          · have e : 2 * (2 * T + d1) + d0 = 4 * X + 1 := by omega
            rw [e, cmpv_eq]; omega
        have HM := Lib.hid (root_more HQ.out h1 h0 hle)
        have HLE := Lib.hid hle
        clear hle h1 h0 hmul
        go_wp2_with fail
        refine (rminus_any _ _ _ _ _ _ _ _ _ hs7 hs9 hz9 (by rw [HV7.out, HV9.out]; exact HLE.out)).mono ?_
        rintro e w6 ⟨A10, n10, c10, z10, rfl, hs10, hz10, hv10, hb10⟩
        rw [HV7.out, HV9.out] at hv10
        have HV10 := Lib.hid hv10
        have b0 := b0.below hb10 b0.lt
        have b1 := b1.below hb10 b1.lt
        have hsx := hsx.on hb10
        have hs5 := hs5.on hb10
        have HB11 := Lib.hid (below_chain HB10.out (by have := Hr.out; have := HB10.out.size; omega) hb10)
        clear hv10 hb10 hs7 hs9
        go_wp2_with fail
        refine (HK.out.2 _ _ _ z5 _ hs5 hn5).mono ?_
        rintro e w7 ⟨A11, n11, c11, z11, rfl, hs11, hz11, hv11, hb11⟩
        rw [HXT.out.1] at hv11
        have HR' := Lib.hid (show RootOf (N / 2 ^ (2 * j)) (val z11) (val z10) by rw [hv11, HV10.out, HN4.out]; exact HM.out)
        have HE := Lib.hid (And.intro (b0.below hb11 b0.lt) (And.intro (b1.below hb11 b1.lt) (And.intro (hsx.on hb11) (below_chain HB11.out (by have := Hr.out; have := HB11.out.size; omega) hb11))))
        have hs10 := hs10.on hb11
        clear hv11 hb11 b0 b1 hsx hs5
        go_wp2
        go_roundg j
        case measure => omega
        case rel => exact ⟨A11, n11, c11, z11, A10, n10, c10, z10, j, rfl, rfl, by go_num, rfl, by omega, hs11, hs10, hz11, hz10, HR'.out, HE.out.1, HE.out.2.1, HE.out.2.2.1, HE.out.2.2.2⟩
      · have hlt : 2 * (2 * T + d1) + d0 < 4 * X + 1 := by omega
        have hc : cmpv (2 * (2 * T + d1) + d0) (4 * X + 1) < 0 := by rw [cmpv_lt hlt]; decide
        have HM := Lib.hid (root_less HQ.out hlt)
        clear hle hlt h1 h0 hmul
        go_wp2_with fail
        refine (HK.out.1 _ _ _ z5 _ hs5 hn5).mono ?_
        rintro e w7 ⟨A11, n11, c11, z11, rfl, hs11, hz11, hv11, hb11⟩
        rw [HXT.out.1] at hv11
        have HR' := Lib.hid (show RootOf (N / 2 ^ (2 * j)) (val z11) (val z7) by rw [hv11, HV7.out, HN4.out]; exact HM.out)
        have HE := Lib.hid (And.intro (b0.below hb11 b0.lt) (And.intro (b1.below hb11 b1.lt) (And.intro (hsx.on hb11) (below_chain HB10.out (by have := Hr.out; have := HB10.out.size; omega) hb11))))
        have hs7 := hs7.on hb11
        clear hv11 hb11 b0 b1 hsx hs5 hs9
        go_wp2
        go_roundg j
        case measure => omega
        case rel => exact ⟨A11, n11, c11, z11, A7, n7, c7, z7, j, rfl, rfl, by go_num, rfl, by omega, hs11, hs7, hz11, hz7, HR'.out, HE.out.1, HE.out.2.1, HE.out.2.2.1, HE.out.2.2.2⟩
    · obtain rfl : i = 0 := by omega
      have hrt := Hrt.out
      rw [Nat.mul_zero, Nat.pow_zero, Nat.div_one] at hrt
      have he := root_end hrt
      have hs := root_uniq he.1 he.2.1 HN.out.2.1 HN.out.2.2.1
      have HX := Lib.hid hs
      have hb : ((n6 : Int) == 0) = b := by
        rw [← HN.out.2.2.2, Bool.eq_iff_iff, beq_iff_eq, decide_eq_true_iff, ← hs, ← he.2.2]
        constructor
        · intro e
          have := hs6.len
          rw [List.eq_nil_of_length_eq_zero (by omega : z6.length = 0)]
          rfl
        · intro e
          have := hs6.len
          rw [val_zero Hz6.out e] at this
          simp at this
          omega
      clear hrt he hs hi0
      have C := fit_any false _ _ _ z5 _ hs5 Hz5.out
      have hf := fit_yes (z := sg false (val z5)) (by rw [sg_abs]; exact Nat.lt_of_le_of_lt H5b.out.2 H5b.out.1)
      rw [hf.1, hf.2, HX.out] at C
      clear hf
      have e0 : decide ((0 : Int) < ((0 : Nat) : Int)) = false := by decide
      go_wp2_with fail
      refine C.mono ?_
      clear C
      rintro e w8 ⟨A8, n8, c8, z8, rfl, hs8, hz8, hv8, hb8⟩
      have b1 := Hb1.out.below hb8 Hb1.out.lt
      have k3 := b1.c0
      have k4 := b1.c1
      have k5 := b1.f 0
      have k6 := b1.f 1
      have l1 := b1.lt
      have H8 := Lib.hid (And.intro hz8 hv8)
      have HB8 := Lib.hid (below_chain HBr.out (Nat.le_of_lt Hb0.out.lt) hb8)
      clear hz8 hv8 hb8
      go_wp2
      refine bodyPost_ret (v := .tuple #[.agg #[.bool (decide (sg false s < 0)), .slice A8 n8 c8], .bool b, .int .i64 0]) ?_ rfl
        ⟨A8, n8, c8, z8, rfl, (hs8.ret b1 _ _).on (below_new _ _), H8.out.1, H8.out.2, ?_⟩
      · simp [results, Try.results38, go_sem, k3, k4, l1]
      · rw [Hr.out]
        exact (below_ret HB8.out (show r ≤ r + 1 by omega) _ _).alloc (by have := Hr.out; have := HB8.out.size; simp [World.setCell]; omega) _

end Go.Proofs.Ytalgcppogjpilaa

namespace Go.Proofs.Ytalgcppogjpilaa
open Go.RowKit

theorem root_ex (N : Nat) : ∃ s : Nat, s * s ≤ N ∧ N < (s + 1) * (s + 1) := by
  induction N with
  | zero => exact ⟨0, by decide, by decide⟩
  | succ N ih =>
    obtain ⟨s, h1, h2⟩ := ih
    by_cases h : N + 1 < (s + 1) * (s + 1)
    · exact ⟨s, by omega, h⟩
    · refine ⟨s + 1, by omega, ?_⟩
      have e : (s + 1 + 1) * (s + 1 + 1) = (s + 1) * (s + 1) + 2 * s + 3 := by
        rw [Nat.add_mul, Nat.mul_add (s + 1) (s + 1) 1, Nat.one_mul, Nat.mul_one]; omega
      omega
theorem one_box (neg : Bool) (A : Option Addr) (n c : Nat) (xs : List Nat) (w W : World) (h : Sl w w.heap.size A n c xs) (hW : w.alloc (.cells #[.bool neg, .slice A n c] 24) = W) :
    Below w.heap.size w W ∧ Ba W w.heap.size neg A n c xs := by
  subst hW
  exact ⟨below_new _ _, Bx.new _ _ _ _ _, h.on (below_new _ _)⟩

set_option maxRecDepth 20000 in
set_option maxHeartbeats 4000000 in
theorem roots_walk (neg : Bool) (A : Option Addr) (n c : Nat) (xs : List Nat) (w : World) (h : Sl w w.heap.size A n c xs) (z e : Int) (b : Bool)
    (C1 : Hid (∀ w : World, Sl w w.heap.size A n c xs → Calls Try.prog 37 #[.agg #[.bool neg, .slice A n c]] w (RetSq z b e w))) (C2 : Hid (∀ w : World, Sl w w.heap.size A n c xs → Calls Try.prog 38 #[.agg #[.bool neg, .slice A n c]] w (RetSq z b e w))) :
    Calls Try.prog 8 #[.agg #[.bool neg, .slice A n c]] w (fun e w' => e = .returned (.bool true) ∧ Below w.heap.size w w') := by
  have hee : (e == e) = true := by simp
  have hbb : (b == b) = true := by simp
  go_enter Try.func8, Try.ntmps8
  go_wp2_with fail
  generalize hW : World.alloc w _ = V
  obtain ⟨hb, a⟩ := one_box neg A n c xs w V h hW
  have HB := Lib.hid hb
  clear hW hb h
  generalize hr0 : w.heap.size = r0 at *
  have HR := Lib.hid hr0
  clear hr0
  have ka0 := a.bx.c0
  have ka1 := a.bx.c1
  have la := a.bx.lt
  go_wp2_with fail
  clear ka0 ka1 la
  refine (C1.out _ a.sl).mono ?_
  rintro e w1 ⟨A1, n1, c1, xs1, rfl, hs1, hx1, hv1, hbn⟩
  replace a := a.on hbn
  replace HB := Lib.hid (show Below r0 w w1 from below_chain HB.out (by have := HR.out; have := HB.out.size; omega) hbn)
  clear hbn
  have F1 := Lib.hid (And.intro hx1 hv1)
  clear hx1 hv1
  have ka0 := a.bx.c0
  have ka1 := a.bx.c1
  have la := a.bx.lt
  go_wp2_with fail
  clear ka0 ka1 la
  generalize hW : World.alloc w1 _ = V1
  have x : Ba V1 w1.heap.size (decide (z < 0)) A1 n1 c1 xs1 := by rw [← hW]; exact ⟨Bx.new _ _ _ _ _, hs1.on (below_new _ _)⟩
  replace a : Ba V1 (r0) (neg) A n c xs := by rw [← hW]; exact a.on (below_new _ _)
  replace HB := Lib.hid (show Below r0 w V1 by rw [← hW]; exact HB.out.alloc (by have := HR.out; have := HB.out.size; omega) _)
  clear hW hs1
  generalize w1.heap.size = r1 at *
  refine (C2.out _ a.sl).mono ?_
  rintro e w2 ⟨A2, n2, c2, xs2, rfl, hs2, hx2, hv2, hbn⟩
  replace a := a.on hbn
  replace x := x.on hbn
  replace HB := Lib.hid (show Below r0 w w2 from below_chain HB.out (by have := HR.out; have := HB.out.size; omega) hbn)
  clear hbn
  have F2 := Lib.hid (And.intro hx2 hv2)
  clear hx2 hv2
  go_wp2_with fail
  generalize hW : World.alloc w2 _ = V2
  have y : Ba V2 w2.heap.size (decide (z < 0)) A2 n2 c2 xs2 := by rw [← hW]; exact ⟨Bx.new _ _ _ _ _, hs2.on (below_new _ _)⟩
  replace a : Ba V2 (r0) (neg) A n c xs := by rw [← hW]; exact a.on (below_new _ _)
  replace x : Ba V2 (r1) (decide (z < 0)) A1 n1 c1 xs1 := by rw [← hW]; exact x.on (below_new _ _)
  replace HB := Lib.hid (show Below r0 w V2 by rw [← hW]; exact HB.out.alloc (by have := HR.out; have := HB.out.size; omega) _)
  clear hW hs2
  generalize w2.heap.size = r2 at *
  refine (works_any _).mono ?_
  rintro e w3 ⟨rfl, hbn⟩
  replace a := a.on hbn
  replace x := x.on hbn
  replace y := y.on hbn
  replace HB := Lib.hid (show Below r0 w w3 from below_chain HB.out (by have := HR.out; have := HB.out.size; omega) hbn)
  clear hbn
  have kx0 := x.bx.c0
  have kx1 := x.bx.c1
  have ky0 := y.bx.c0
  have ky1 := y.bx.c1
  have lx := x.bx.lt
  have ly := y.bx.lt
  go_wp2_with fail
  clear kx0 kx1 lx ky0 ky1 ly
  refine (lsame_yes _ _ _ _ _ _ _ _ _ _ _ x.sl y.sl rfl (uniq x.sl.ok y.sl.ok F1.out.1 F2.out.1 (F1.out.2.trans F2.out.2.symm))).mono ?_
  rintro e w4 ⟨rfl, hbn⟩
  replace a := a.on hbn
  replace x := x.on hbn
  replace y := y.on hbn
  replace HB := Lib.hid (show Below r0 w w4 from below_chain HB.out (by have := HR.out; have := HB.out.size; omega) hbn)
  clear hbn
  go_wp2
  go_ret
  exact ⟨rfl, HR.out ▸ HB.out⟩

theorem integerRoots_any (neg : Bool) (A : Option Addr) (n c : Nat) (xs : List Nat) (w : World) (h : Sl w w.heap.size A n c xs) :
    Calls Try.prog 8 #[.agg #[.bool neg, .slice A n c]] w fun e w' => e = .returned (.bool true) ∧ Below w.heap.size w w' := by
  rcases hv : vld neg xs with _ | _
  · exact roots_walk neg A n c xs w h _ _ _ (fun w h => sqrt_bad neg A n c xs w h hv) (fun w h => rsqrt_bad neg A n c xs w h hv)
  · cases neg
    · obtain ⟨s, h1, h2⟩ := root_ex (val xs)
      have hc : (cmpv (s * s) (val xs) == 0) = decide (s * s = val xs) := by
        rw [Bool.eq_iff_iff, beq_iff_eq, decide_eq_true_iff]
        constructor
        · intro e
          rcases Nat.lt_trichotomy (s * s) (val xs) with h | h | h
          · rw [cmpv_lt h] at e; cases e
          · exact h
          · rw [cmpv_gt h] at e; cases e
        · intro e
          rw [e, cmpv_eq]
      exact roots_walk false A n c xs w h _ _ _ (fun w h => sqrt_good A n c xs w h hv s (s * s) (val xs) _ _ rfl h1 h2 rfl rfl hc) (fun w h => rsqrt_good A n c xs w h hv s (val xs) _ rfl h1 h2 rfl)
    · exact roots_walk true A n c xs w h _ _ _ (fun w h => sqrt_neg A n c xs w h hv) (fun w h => rsqrt_neg A n c xs w h hv)

end Go.Proofs.Ytalgcppogjpilaa
