/-
  Written by mkbase.py: RefShift, RootsP.
-/
import Derived.Test.YtlibjampolcbhaaGreatBaseG
import Derived.Deep.DeepCutAuto
import Derived.Deep.RegionHeld3
namespace Go.Proofs.YtlibjampolcbhaaGreat
open Go.RowKit
set_option maxRecDepth 20000 in
set_option maxHeartbeats 1000000 in
theorem rshift_bad (neg : Bool) (A : Option Addr) (n c : Nat) (xs : List Nat) (s : Int) (w : World) (h : Sl w w.heap.size A n c xs) (hv : vld neg xs = false) :
    Calls Tryz.prog 76 #[.agg #[.bool neg, .slice A n c], .int .i64 s] w (RetIE 0 1 w) := by
  go_enter Tryz.func76, Tryz.ntmps76
  go_wp2_with fail
  generalize hW : World.alloc (World.alloc w _) _ = W
  obtain ⟨hb, hz, b0, b1⟩ := one_boxes neg A n c w W hW
  have hs := h.on hb
  clear hW
  refine (rvalid_any _ _ _ _ _ xs _ hs (Nat.le_refl _)).mono ?_
  rintro e w1 ⟨rfl, hb1⟩
  have hz1 : w.heap.size + 1 < w1.heap.size := by have := hb1.size; omega
  have b0 := b0.below hb1 (by omega)
  have b1 := b1.below hb1 (by omega)
  have hs := hs.on hb1
  have hb := below_chain hb (by omega) hb1
  clear hb1
  have k0 := b0.c0
  have k1 := b0.c1
  have k3 := b1.c0
  have k4 := b1.c1
  have k5 := b1.f 0
  have k6 := b1.f 1
  generalize hr : w.heap.size = r at *
  have HRW := Lib.hid (And.intro hb hr)
  clear hb hr
  go_wp2
  exact bodyPost_ret (v := .tuple #[.agg #[.bool false, .slice none 0 0], .int .i64 1]) (by simp [results, Tryz.results76, go_sem, k3, k4]) rfl
    ⟨none, 0, 0, [], rfl, Sl.nil _ _, Nz.nil, rfl, by rw [HRW.out.2]; exact below_ret HRW.out.1 (show r ≤ r + 1 by omega) _ _⟩
set_option maxRecDepth 20000 in
set_option maxHeartbeats 1000000 in
theorem rshift_nil (neg : Bool) (A : Option Addr) (n c : Nat) (xs : List Nat) (s : Int) (w : World) (h : Sl w w.heap.size A n c xs) (hv : vld neg xs = true) (h0 : xs = []) :
    Calls Tryz.prog 76 #[.agg #[.bool neg, .slice A n c], .int .i64 s] w (RetIE 0 0 w) := by
  obtain rfl : n = 0 := by have := h.len; rw [h0] at this; simpa using this.symm
  clear h0
  go_enter Tryz.func76, Tryz.ntmps76
  go_wp2_with fail
  generalize hW : World.alloc (World.alloc w _) _ = W
  obtain ⟨hb, hz, b0, b1⟩ := one_boxes neg A 0 c w W hW
  have hs := h.on hb
  clear hW
  refine (rvalid_any _ _ _ _ _ xs _ hs (Nat.le_refl _)).mono ?_
  rintro e w1 ⟨rfl, hb1⟩
  have hz1 : w.heap.size + 1 < w1.heap.size := by have := hb1.size; omega
  have b0 := b0.below hb1 (by omega)
  have b1 := b1.below hb1 (by omega)
  have hs := hs.on hb1
  have hb := below_chain hb (by omega) hb1
  clear hb1
  have k0 := b0.c0
  have k1 := b0.c1
  have k3 := b1.c0
  have k4 := b1.c1
  have k5 := b1.f 0
  have k6 := b1.f 1
  generalize hr : w.heap.size = r at *
  have HRW := Lib.hid (And.intro hb hr)
  clear hb hr
  go_wp2
  exact bodyPost_ret (v := .tuple #[.agg #[.bool false, .slice none 0 0], .int .i64 0]) (by simp [results, Tryz.results76, go_sem, k3, k4]) rfl
    ⟨none, 0, 0, [], rfl, Sl.nil _ _, Nz.nil, rfl, by rw [HRW.out.2]; exact below_ret HRW.out.1 (show r ≤ r + 1 by omega) _ _⟩
set_option maxRecDepth 20000 in
set_option maxHeartbeats 1000000 in
theorem rshl_big (neg : Bool) (A : Option Addr) (n c : Nat) (xs : List Nat) (s : Int) (w : World) (h : Sl w w.heap.size A n c xs) (hv : vld neg xs = true) (h0 : xs ≠ []) (hs0 : 0 ≤ s) (hb9 : 4096 < s) :
    Calls Tryz.prog 76 #[.agg #[.bool neg, .slice A n c], .int .i64 s] w (RetIE 0 2 w) := by
  have Hg := Lib.hid (vld_true hv)
  have hn0 := shl_pos h0 h.len
  have hn9 : n ≤ 1000000 := by have := h.len; have := Hg.out.1; omega
  clear h0
  have i4 : ((n : Int) == 0) = false := by rw [beq_eq_false_iff_ne]; omega
  go_enter Tryz.func76, Tryz.ntmps76
  go_wp2_with fail
  generalize hW : World.alloc (World.alloc w _) _ = W
  obtain ⟨hb, hz, b0, b1⟩ := one_boxes neg A n c w W hW
  have hs := h.on hb
  clear hW
  refine (rvalid_any _ _ _ _ _ xs _ hs (Nat.le_refl _)).mono ?_
  rintro e w1 ⟨rfl, hb1⟩
  have hz1 : w.heap.size + 1 < w1.heap.size := by have := hb1.size; omega
  have b0 := b0.below hb1 (by omega)
  have b1 := b1.below hb1 (by omega)
  have hs := hs.on hb1
  have hb := below_chain hb (by omega) hb1
  clear hb1
  have k0 := b0.c0
  have k1 := b0.c1
  have k3 := b1.c0
  have k4 := b1.c1
  have k5 := b1.f 0
  have k6 := b1.f 1
  generalize hr : w.heap.size = r at *
  have HRW := Lib.hid (And.intro hb hr)
  clear hb hr
  go_wp2
  exact bodyPost_ret (v := .tuple #[.agg #[.bool false, .slice none 0 0], .int .i64 2]) (by simp [results, Tryz.results76, go_sem, k3, k4]) rfl
    ⟨none, 0, 0, [], rfl, Sl.nil _ _, Nz.nil, rfl, by rw [HRW.out.2]; exact below_ret HRW.out.1 (show r ≤ r + 1 by omega) _ _⟩
set_option maxRecDepth 20000 in
set_option maxHeartbeats 2000000 in
theorem rshl_fit (neg : Bool) (A : Option Addr) (n c : Nat) (xs : List Nat) (s : Nat) (w : World) (h : Sl w w.heap.size A n c xs) (hv : vld neg xs = true) (h0 : xs ≠ []) (hb9 : (s : Int) ≤ 4096) (v : Nat) (hvs : val xs * 2 ^ s = v) :
    Calls Tryz.prog 76 #[.agg #[.bool neg, .slice A n c], .int .i64 (s : Int)] w (RetIE (fitZ (sg neg v)) (fitE (sg neg v)) w) := by
  have Hg := Lib.hid (vld_true hv)
  have hn0 := shl_pos h0 h.len
  have hn9 : n ≤ 1000000 := by have := h.len; have := Hg.out.1; omega
  clear h0
  have i4 : ((n : Int) == 0) = false := by rw [beq_eq_false_iff_ne]; omega
  have Hvs := Lib.hid hvs
  clear hvs
  have hl : (s : Int) / 32 = ((s / 32 : Nat) : Int) := by omega
  have ht : (s : Int) % 32 = ((s % 32 : Nat) : Int) := by omega
  have Hlt := Lib.hid (And.intro hl ht)
  clear hl ht
  have hs9 : s ≤ 1000000 := by omega
  go_enter Tryz.func76, Tryz.ntmps76
  go_wp2_with fail
  generalize hW : World.alloc (World.alloc w _) _ = W
  obtain ⟨hb, hz, b0, b1⟩ := one_boxes neg A n c w W hW
  have hs := h.on hb
  clear hW
  refine (rvalid_any _ _ _ _ _ xs _ hs (Nat.le_refl _)).mono ?_
  rintro e w1 ⟨rfl, hb1⟩
  have hz1 : w.heap.size + 1 < w1.heap.size := by have := hb1.size; omega
  have b0 := b0.below hb1 (by omega)
  have b1 := b1.below hb1 (by omega)
  have hs := hs.on hb1
  have hb := below_chain hb (by omega) hb1
  clear hb1
  have k0 := b0.c0
  have k1 := b0.c1
  have k3 := b1.c0
  have k4 := b1.c1
  have k5 := b1.f 0
  have k6 := b1.f 1
  generalize hr : w.heap.size = r at *
  have HRW := Lib.hid (And.intro hb hr)
  clear hb hr
  have ne1 : r ≠ r + 1 := by omega
  have ne2 : r + 1 ≠ r := by omega
  go_wp2_with fail
  go_region_held3 (fun w' => w'.cell? ⟨r, 0, none⟩ = some (.bool neg) ∧ w'.cell? ⟨r, 1, none⟩ = some (.slice A n c))
    (go_keep)
    (first
      | (go_at_call 105
         have L := fit_any neg A3 n3 c3 xs3 w3 hs3 hx3
         rw [H3.out] at L
         refine L.mono ?_
         clear L
         rintro e w4 ⟨A4, n4, c4, xs4, rfl, hs4, hx4, hv4, hb4⟩
         have e0 := d0.below hb4 (by omega)
         have e1 := d1.below hb4 (by omega)
         have j0' := e0.c0
         have j1' := e0.c1
         have j3' := e1.c0
         have j4' := e1.c1
         have j5' := e1.f 0
         have j6' := e1.f 1
         have H4 := Lib.hid (And.intro hv4 hx4)
         clear hv4 hx4)
      | (go_at_call 110
         refine (rleft_any A n c s (s / 32) (s % 32) xs _ hs.drew hn9 hs9 Hlt.out.1 Hlt.out.2).mono ?_
         rintro e w3 ⟨A3, n3, c3, xs3, rfl, hs3, hx3, hv3, hbd⟩
         have hb3 := below_undrew hbd
         rw [Hvs.out] at hv3
         have H3 := Lib.hid hv3
         clear hbd hv3
         have d0 := b0.below hb3 (by omega)
         have d1 := b1.below hb3 (by omega)
         have hz3 := d1.lt
         have j0 := d0.c0
         have j1 := d0.c1))
  go_wp2
  exact bodyPost_ret (v := .tuple #[.agg #[.bool (decide (fitZ (sg neg v) < 0)), .slice A4 n4 c4], .int .i64 (fitE (sg neg v))])
    (by simp [results, Tryz.results76, go_sem, j3', j4']) rfl
    ⟨A4, n4, c4, xs4, rfl, hs4.ret e1 _ _, H4.out.2, H4.out.1, by rw [HRW.out.2]; exact below_ret (below_chain (below_chain HRW.out.1 (by omega) hb3) (by omega) hb4) (show r ≤ r + 1 by omega) _ _⟩
theorem rright_pw (A : Option Addr) (n c s : Nat) (xs : List Nat) (w : World) (h : Sl w w.heap.size A n c xs) (hx : Nz xs) (hs : s ≤ 1000000) (hn : n ≤ 1000000) :
    Calls Tryz.prog 117 #[.slice A n c, .int .i64 (s : Int)] w (RetNumB (val xs / pw s) (decide (val xs % pw s ≠ 0)) w) := rright_any A n c s xs w h hx hs hn
set_option maxRecDepth 20000 in
set_option maxHeartbeats 2000000 in
theorem rshr_pos1 (A : Option Addr) (n c : Nat) (xs : List Nat) (s : Int) (w : World) (h : Sl w w.heap.size A n c xs) (hv : vld false xs = true) (h0 : xs ≠ []) (hs0 : s < -4096) (hs9 : -9223372036854775808 ≤ s) (b : Bool) (hb7 : decide (val xs % pw 4096 ≠ 0) = b) (v : Nat) (hv9 : val xs / pw 4096 = v) :
    Calls Tryz.prog 76 #[.agg #[.bool false, .slice A n c], .int .i64 s] w (RetIE (fitZ (sg false v)) (fitE (sg false v)) w) := by
  have Hg := Lib.hid (vld_true hv)
  have hn0 := shl_pos h0 h.len
  have hn9 : n ≤ 1000000 := by have := h.len; have := Hg.out.1; omega
  clear h0
  have i4 : ((n : Int) == 0) = false := by rw [beq_eq_false_iff_ne]; omega
  have Hv9 := Lib.hid (And.intro hv9 hb7)
  clear hv9 hb7
  go_enter Tryz.func76, Tryz.ntmps76
  go_wp2_with fail
  generalize hW : World.alloc (World.alloc w _) _ = W
  obtain ⟨hb, hz, b0, b1⟩ := one_boxes false A n c w W hW
  have hs := h.on hb
  clear hW
  refine (rvalid_any _ _ _ _ _ xs _ hs (Nat.le_refl _)).mono ?_
  rintro e w1 ⟨rfl, hb1⟩
  have hz1 : w.heap.size + 1 < w1.heap.size := by have := hb1.size; omega
  have b0 := b0.below hb1 (by omega)
  have b1 := b1.below hb1 (by omega)
  have hs := hs.on hb1
  have hb := below_chain hb (by omega) hb1
  clear hb1
  have k0 := b0.c0
  have k1 := b0.c1
  go_wp2_with fail
  refine (rright_pw _ _ _ 4096 _ _ hs Hg.out.2.1 (by omega) hn9).mono ?_
  rintro e w2 ⟨A2, n2, c2, xs2, rfl, hs2, hx2, hv2, hb2⟩
  rw [Hv9.out.2]
  have b0 := b0.below hb2 (by omega)
  have b1 := b1.below hb2 (by omega)
  have hz2 := b1.lt
  have H2 := Lib.hid (And.intro hv2 hx2)
  have hn2 : n2 ≤ 1000000 := by
    have a : xs2.length ≤ 128 := length_le hx2 (n := 128) (by
      rw [hv2]
      have b : val xs < BIG := (big_iff h.ok Hg.out.2.1).2 Hg.out.1
      exact Nat.lt_of_le_of_lt (Nat.div_le_self _ _) b)
    rw [hs2.len] at a; omega
  clear hv2 hx2 k0 k1
  have k0 := b0.c0
  go_wp2_with fail
  refine (fit_any false _ _ _ _ _ hs2 H2.out.2).mono ?_
  rw [H2.out.1, Hv9.out.1]
  rintro e w4 ⟨A4, n4, c4, xs4, rfl, hs4, hx4, hv4, hb4⟩
  have b1 := b1.below hb4 (by omega)
  have k3 := b1.c0
  have k4 := b1.c1
  have k5 := b1.f 0
  have k6 := b1.f 1
  have H4 := Lib.hid hv4
  clear hv4
  generalize hr : w.heap.size = r at *
  have HRW := Lib.hid (And.intro hb hr)
  clear hb hr
  go_wp2
  exact bodyPost_ret (v := .tuple #[.agg #[.bool (decide (fitZ (sg false v) < 0)), .slice A4 n4 c4], .int .i64 (fitE (sg false v))]) (by simp [results, Tryz.results76, go_sem, k3, k4]) rfl
    ⟨A4, n4, c4, xs4, rfl, hs4.ret b1 _ _, hx4, H4.out, by rw [HRW.out.2]; exact below_ret (below_chain (below_chain HRW.out.1 (by omega) hb2) (by omega) hb4) (show r ≤ r + 1 by omega) _ _⟩
set_option maxRecDepth 20000 in
set_option maxHeartbeats 2000000 in
theorem rshr_pos2 (A : Option Addr) (n c : Nat) (xs : List Nat) (w : World) (h : Sl w w.heap.size A n c xs) (hv : vld false xs = true) (h0 : xs ≠ []) (d : Nat) (hd1 : 0 < d) (hd2 : d ≤ 4096) (b : Bool) (hb7 : decide (val xs % pw d ≠ 0) = b) (v : Nat) (hv9 : val xs / pw d = v) :
    Calls Tryz.prog 76 #[.agg #[.bool false, .slice A n c], .int .i64 (-(d : Int))] w (RetIE (fitZ (sg false v)) (fitE (sg false v)) w) := by
  have Hg := Lib.hid (vld_true hv)
  have hn0 := shl_pos h0 h.len
  have hn9 : n ≤ 1000000 := by have := h.len; have := Hg.out.1; omega
  clear h0
  have i4 : ((n : Int) == 0) = false := by rw [beq_eq_false_iff_ne]; omega
  have Hv9 := Lib.hid (And.intro hv9 hb7)
  clear hv9 hb7
  have l1 : ¬ (0 ≤ -(d : Int)) := by omega
  have l2 : ¬ (-(d : Int) < -4096) := by omega
  go_enter Tryz.func76, Tryz.ntmps76
  go_wp2_with fail
  generalize hW : World.alloc (World.alloc w _) _ = W
  obtain ⟨hb, hz, b0, b1⟩ := one_boxes false A n c w W hW
  have hs := h.on hb
  clear hW
  refine (rvalid_any _ _ _ _ _ xs _ hs (Nat.le_refl _)).mono ?_
  rintro e w1 ⟨rfl, hb1⟩
  have hz1 : w.heap.size + 1 < w1.heap.size := by have := hb1.size; omega
  have b0 := b0.below hb1 (by omega)
  have b1 := b1.below hb1 (by omega)
  have hs := hs.on hb1
  have hb := below_chain hb (by omega) hb1
  clear hb1
  have k0 := b0.c0
  have k1 := b0.c1
  go_wp2_with fail
  refine (rright_pw _ _ _ d _ _ hs Hg.out.2.1 (by omega) hn9).mono ?_
  rintro e w2 ⟨A2, n2, c2, xs2, rfl, hs2, hx2, hv2, hb2⟩
  rw [Hv9.out.2]
  have b0 := b0.below hb2 (by omega)
  have b1 := b1.below hb2 (by omega)
  have hz2 := b1.lt
  have H2 := Lib.hid (And.intro hv2 hx2)
  have hn2 : n2 ≤ 1000000 := by
    have a : xs2.length ≤ 128 := length_le hx2 (n := 128) (by
      rw [hv2]
      have b : val xs < BIG := (big_iff h.ok Hg.out.2.1).2 Hg.out.1
      exact Nat.lt_of_le_of_lt (Nat.div_le_self _ _) b)
    rw [hs2.len] at a; omega
  clear hv2 hx2 k0 k1
  have k0 := b0.c0
  go_wp2_with fail
  refine (fit_any false _ _ _ _ _ hs2 H2.out.2).mono ?_
  rw [H2.out.1, Hv9.out.1]
  rintro e w4 ⟨A4, n4, c4, xs4, rfl, hs4, hx4, hv4, hb4⟩
  have b1 := b1.below hb4 (by omega)
  have k3 := b1.c0
  have k4 := b1.c1
  have k5 := b1.f 0
  have k6 := b1.f 1
  have H4 := Lib.hid hv4
  clear hv4
  generalize hr : w.heap.size = r at *
  have HRW := Lib.hid (And.intro hb hr)
  clear hb hr
  go_wp2
  exact bodyPost_ret (v := .tuple #[.agg #[.bool (decide (fitZ (sg false v) < 0)), .slice A4 n4 c4], .int .i64 (fitE (sg false v))]) (by simp [results, Tryz.results76, go_sem, k3, k4]) rfl
    ⟨A4, n4, c4, xs4, rfl, hs4.ret b1 _ _, hx4, H4.out, by rw [HRW.out.2]; exact below_ret (below_chain (below_chain HRW.out.1 (by omega) hb2) (by omega) hb4) (show r ≤ r + 1 by omega) _ _⟩
set_option maxRecDepth 20000 in
set_option maxHeartbeats 2000000 in
theorem rshr_neg1f (A : Option Addr) (n c : Nat) (xs : List Nat) (s : Int) (w : World) (h : Sl w w.heap.size A n c xs) (hv : vld true xs = true) (h0 : xs ≠ []) (hs0 : s < -4096) (hs9 : -9223372036854775808 ≤ s) (b : Bool) (hb7 : decide (val xs % pw 4096 ≠ 0) = b) (hb8 : b = false) (v : Nat) (hv9 : val xs / pw 4096 = v) :
    Calls Tryz.prog 76 #[.agg #[.bool true, .slice A n c], .int .i64 s] w (RetIE (fitZ (sg true v)) (fitE (sg true v)) w) := by
  have Hg := Lib.hid (vld_true hv)
  have hn0 := shl_pos h0 h.len
  have hn9 : n ≤ 1000000 := by have := h.len; have := Hg.out.1; omega
  clear h0
  have i4 : ((n : Int) == 0) = false := by rw [beq_eq_false_iff_ne]; omega
  subst hb8
  have Hv9 := Lib.hid (And.intro hv9 hb7)
  clear hv9 hb7
  go_enter Tryz.func76, Tryz.ntmps76
  go_wp2_with fail
  generalize hW : World.alloc (World.alloc w _) _ = W
  obtain ⟨hb, hz, b0, b1⟩ := one_boxes true A n c w W hW
  have hs := h.on hb
  clear hW
  refine (rvalid_any _ _ _ _ _ xs _ hs (Nat.le_refl _)).mono ?_
  rintro e w1 ⟨rfl, hb1⟩
  have hz1 : w.heap.size + 1 < w1.heap.size := by have := hb1.size; omega
  have b0 := b0.below hb1 (by omega)
  have b1 := b1.below hb1 (by omega)
  have hs := hs.on hb1
  have hb := below_chain hb (by omega) hb1
  clear hb1
  have k0 := b0.c0
  have k1 := b0.c1
  go_wp2_with fail
  refine (rright_pw _ _ _ 4096 _ _ hs Hg.out.2.1 (by omega) hn9).mono ?_
  rintro e w2 ⟨A2, n2, c2, xs2, rfl, hs2, hx2, hv2, hb2⟩
  rw [Hv9.out.2]
  have b0 := b0.below hb2 (by omega)
  have b1 := b1.below hb2 (by omega)
  have hz2 := b1.lt
  have H2 := Lib.hid (And.intro hv2 hx2)
  have hn2 : n2 ≤ 1000000 := by
    have a : xs2.length ≤ 128 := length_le hx2 (n := 128) (by
      rw [hv2]
      have b : val xs < BIG := (big_iff h.ok Hg.out.2.1).2 Hg.out.1
      exact Nat.lt_of_le_of_lt (Nat.div_le_self _ _) b)
    rw [hs2.len] at a; omega
  clear hv2 hx2 k0 k1
  have k0 := b0.c0
  go_wp2_with fail
  refine (fit_any true _ _ _ _ _ hs2 H2.out.2).mono ?_
  rw [H2.out.1, Hv9.out.1]
  rintro e w4 ⟨A4, n4, c4, xs4, rfl, hs4, hx4, hv4, hb4⟩
  have b1 := b1.below hb4 (by omega)
  have k3 := b1.c0
  have k4 := b1.c1
  have k5 := b1.f 0
  have k6 := b1.f 1
  have H4 := Lib.hid hv4
  clear hv4
  generalize hr : w.heap.size = r at *
  have HRW := Lib.hid (And.intro hb hr)
  clear hb hr
  go_wp2
  exact bodyPost_ret (v := .tuple #[.agg #[.bool (decide (fitZ (sg true v) < 0)), .slice A4 n4 c4], .int .i64 (fitE (sg true v))]) (by simp [results, Tryz.results76, go_sem, k3, k4]) rfl
    ⟨A4, n4, c4, xs4, rfl, hs4.ret b1 _ _, hx4, H4.out, by rw [HRW.out.2]; exact below_ret (below_chain (below_chain HRW.out.1 (by omega) hb2) (by omega) hb4) (show r ≤ r + 1 by omega) _ _⟩
set_option maxRecDepth 20000 in
set_option maxHeartbeats 2000000 in
theorem rshr_neg2f (A : Option Addr) (n c : Nat) (xs : List Nat) (w : World) (h : Sl w w.heap.size A n c xs) (hv : vld true xs = true) (h0 : xs ≠ []) (d : Nat) (hd1 : 0 < d) (hd2 : d ≤ 4096) (b : Bool) (hb7 : decide (val xs % pw d ≠ 0) = b) (hb8 : b = false) (v : Nat) (hv9 : val xs / pw d = v) :
    Calls Tryz.prog 76 #[.agg #[.bool true, .slice A n c], .int .i64 (-(d : Int))] w (RetIE (fitZ (sg true v)) (fitE (sg true v)) w) := by
  have Hg := Lib.hid (vld_true hv)
  have hn0 := shl_pos h0 h.len
  have hn9 : n ≤ 1000000 := by have := h.len; have := Hg.out.1; omega
  clear h0
  have i4 : ((n : Int) == 0) = false := by rw [beq_eq_false_iff_ne]; omega
  subst hb8
  have Hv9 := Lib.hid (And.intro hv9 hb7)
  clear hv9 hb7
  have l1 : ¬ (0 ≤ -(d : Int)) := by omega
  have l2 : ¬ (-(d : Int) < -4096) := by omega
  go_enter Tryz.func76, Tryz.ntmps76
  go_wp2_with fail
  generalize hW : World.alloc (World.alloc w _) _ = W
  obtain ⟨hb, hz, b0, b1⟩ := one_boxes true A n c w W hW
  have hs := h.on hb
  clear hW
  refine (rvalid_any _ _ _ _ _ xs _ hs (Nat.le_refl _)).mono ?_
  rintro e w1 ⟨rfl, hb1⟩
  have hz1 : w.heap.size + 1 < w1.heap.size := by have := hb1.size; omega
  have b0 := b0.below hb1 (by omega)
  have b1 := b1.below hb1 (by omega)
  have hs := hs.on hb1
  have hb := below_chain hb (by omega) hb1
  clear hb1
  have k0 := b0.c0
  have k1 := b0.c1
  go_wp2_with fail
  refine (rright_pw _ _ _ d _ _ hs Hg.out.2.1 (by omega) hn9).mono ?_
  rintro e w2 ⟨A2, n2, c2, xs2, rfl, hs2, hx2, hv2, hb2⟩
  rw [Hv9.out.2]
  have b0 := b0.below hb2 (by omega)
  have b1 := b1.below hb2 (by omega)
  have hz2 := b1.lt
  have H2 := Lib.hid (And.intro hv2 hx2)
  have hn2 : n2 ≤ 1000000 := by
    have a : xs2.length ≤ 128 := length_le hx2 (n := 128) (by
      rw [hv2]
      have b : val xs < BIG := (big_iff h.ok Hg.out.2.1).2 Hg.out.1
      exact Nat.lt_of_le_of_lt (Nat.div_le_self _ _) b)
    rw [hs2.len] at a; omega
  clear hv2 hx2 k0 k1
  have k0 := b0.c0
  go_wp2_with fail
  refine (fit_any true _ _ _ _ _ hs2 H2.out.2).mono ?_
  rw [H2.out.1, Hv9.out.1]
  rintro e w4 ⟨A4, n4, c4, xs4, rfl, hs4, hx4, hv4, hb4⟩
  have b1 := b1.below hb4 (by omega)
  have k3 := b1.c0
  have k4 := b1.c1
  have k5 := b1.f 0
  have k6 := b1.f 1
  have H4 := Lib.hid hv4
  clear hv4
  generalize hr : w.heap.size = r at *
  have HRW := Lib.hid (And.intro hb hr)
  clear hb hr
  go_wp2
  exact bodyPost_ret (v := .tuple #[.agg #[.bool (decide (fitZ (sg true v) < 0)), .slice A4 n4 c4], .int .i64 (fitE (sg true v))]) (by simp [results, Tryz.results76, go_sem, k3, k4]) rfl
    ⟨A4, n4, c4, xs4, rfl, hs4.ret b1 _ _, hx4, H4.out, by rw [HRW.out.2]; exact below_ret (below_chain (below_chain HRW.out.1 (by omega) hb2) (by omega) hb4) (show r ≤ r + 1 by omega) _ _⟩
set_option maxRecDepth 20000 in
set_option maxHeartbeats 2000000 in
theorem rshr_neg1t (A : Option Addr) (n c : Nat) (xs : List Nat) (s : Int) (w : World) (h : Sl w w.heap.size A n c xs) (hv : vld true xs = true) (h0 : xs ≠ []) (hs0 : s < -4096) (hs9 : -9223372036854775808 ≤ s) (b : Bool) (hb7 : decide (val xs % pw 4096 ≠ 0) = b) (hb8 : b = true) (v : Nat) (hv9 : val xs / pw 4096 + 1 = v) :
    Calls Tryz.prog 76 #[.agg #[.bool true, .slice A n c], .int .i64 s] w (RetIE (fitZ (sg true v)) (fitE (sg true v)) w) := by
  have Hg := Lib.hid (vld_true hv)
  have hn0 := shl_pos h0 h.len
  have hn9 : n ≤ 1000000 := by have := h.len; have := Hg.out.1; omega
  clear h0
  have i4 : ((n : Int) == 0) = false := by rw [beq_eq_false_iff_ne]; omega
  subst hb8
  have Hv9 := Lib.hid (And.intro hv9 hb7)
  clear hv9 hb7
  go_enter Tryz.func76, Tryz.ntmps76
  go_wp2_with fail
  generalize hW : World.alloc (World.alloc w _) _ = W
  obtain ⟨hb, hz, b0, b1⟩ := one_boxes true A n c w W hW
  have hs := h.on hb
  clear hW
  refine (rvalid_any _ _ _ _ _ xs _ hs (Nat.le_refl _)).mono ?_
  rintro e w1 ⟨rfl, hb1⟩
  have hz1 : w.heap.size + 1 < w1.heap.size := by have := hb1.size; omega
  have b0 := b0.below hb1 (by omega)
  have b1 := b1.below hb1 (by omega)
  have hs := hs.on hb1
  have hb := below_chain hb (by omega) hb1
  clear hb1
  have k0 := b0.c0
  have k1 := b0.c1
  go_wp2_with fail
  refine (rright_pw _ _ _ 4096 _ _ hs Hg.out.2.1 (by omega) hn9).mono ?_
  rintro e w2 ⟨A2, n2, c2, xs2, rfl, hs2, hx2, hv2, hb2⟩
  rw [Hv9.out.2]
  have b0 := b0.below hb2 (by omega)
  have b1 := b1.below hb2 (by omega)
  have hz2 := b1.lt
  have H2 := Lib.hid (And.intro hv2 hx2)
  have hn2 : n2 ≤ 1000000 := by
    have a : xs2.length ≤ 128 := length_le hx2 (n := 128) (by
      rw [hv2]
      have b : val xs < BIG := (big_iff h.ok Hg.out.2.1).2 Hg.out.1
      exact Nat.lt_of_le_of_lt (Nat.div_le_self _ _) b)
    rw [hs2.len] at a; omega
  clear hv2 hx2 k0 k1
  have k0 := b0.c0
  go_wp2_with fail
  have hsa := sl_one w2
  have hba := below_new w2 (.cells #[.int .u32 1] 73)
  have hza : w2.heap.size < (w2.alloc (.cells #[.int .u32 1] 73)).heap.size := by simp
  have hs2 := hs2.on hba
  have hb2 := below_chain hb2 hb2.size hba
  have b0 := b0.below hba (by omega)
  have b1 := b1.below hba (by omega)
  generalize (w2.alloc (.cells #[.int .u32 1] 73)) = w3 at *
  refine (rplus_any _ _ _ _ _ _ _ _ _ hs2 hsa (by omega) (by omega)).mono ?_
  rintro e w5 ⟨A5, n5, c5, xs5, rfl, hs5, hx5, hv5, hb5⟩
  rw [show val [1] = 1 from rfl, H2.out.1, Hv9.out.1] at hv5
  have b0 := b0.below hb5 (by omega)
  have b1 := b1.below hb5 (by omega)
  have hb2 := below_chain hb2 hb2.size hb5
  have hz5 := b1.lt
  have H5 := Lib.hid (And.intro hv5 hx5)
  clear hb5 hsa hba hza hs2 hv5 hx5 H2 k0
  have k0 := b0.c0
  go_wp2_with fail
  refine (fit_any true _ _ _ _ _ hs5 H5.out.2).mono ?_
  rw [H5.out.1]
  rintro e w4 ⟨A4, n4, c4, xs4, rfl, hs4, hx4, hv4, hb4⟩
  have b1 := b1.below hb4 (by omega)
  have k3 := b1.c0
  have k4 := b1.c1
  have k5 := b1.f 0
  have k6 := b1.f 1
  have H4 := Lib.hid hv4
  clear hv4
  generalize hr : w.heap.size = r at *
  have HRW := Lib.hid (And.intro hb hr)
  clear hb hr
  go_wp2
  exact bodyPost_ret (v := .tuple #[.agg #[.bool (decide (fitZ (sg true v) < 0)), .slice A4 n4 c4], .int .i64 (fitE (sg true v))]) (by simp [results, Tryz.results76, go_sem, k3, k4]) rfl
    ⟨A4, n4, c4, xs4, rfl, hs4.ret b1 _ _, hx4, H4.out, by rw [HRW.out.2]; exact below_ret (below_chain (below_chain HRW.out.1 (by omega) hb2) (by omega) hb4) (show r ≤ r + 1 by omega) _ _⟩
set_option maxRecDepth 20000 in
set_option maxHeartbeats 2000000 in
theorem rshr_neg2t (A : Option Addr) (n c : Nat) (xs : List Nat) (w : World) (h : Sl w w.heap.size A n c xs) (hv : vld true xs = true) (h0 : xs ≠ []) (d : Nat) (hd1 : 0 < d) (hd2 : d ≤ 4096) (b : Bool) (hb7 : decide (val xs % pw d ≠ 0) = b) (hb8 : b = true) (v : Nat) (hv9 : val xs / pw d + 1 = v) :
    Calls Tryz.prog 76 #[.agg #[.bool true, .slice A n c], .int .i64 (-(d : Int))] w (RetIE (fitZ (sg true v)) (fitE (sg true v)) w) := by
  have Hg := Lib.hid (vld_true hv)
  have hn0 := shl_pos h0 h.len
  have hn9 : n ≤ 1000000 := by have := h.len; have := Hg.out.1; omega
  clear h0
  have i4 : ((n : Int) == 0) = false := by rw [beq_eq_false_iff_ne]; omega
  subst hb8
  have Hv9 := Lib.hid (And.intro hv9 hb7)
  clear hv9 hb7
  have l1 : ¬ (0 ≤ -(d : Int)) := by omega
  have l2 : ¬ (-(d : Int) < -4096) := by omega
  go_enter Tryz.func76, Tryz.ntmps76
  go_wp2_with fail
  generalize hW : World.alloc (World.alloc w _) _ = W
  obtain ⟨hb, hz, b0, b1⟩ := one_boxes true A n c w W hW
  have hs := h.on hb
  clear hW
  refine (rvalid_any _ _ _ _ _ xs _ hs (Nat.le_refl _)).mono ?_
  rintro e w1 ⟨rfl, hb1⟩
  have hz1 : w.heap.size + 1 < w1.heap.size := by have := hb1.size; omega
  have b0 := b0.below hb1 (by omega)
  have b1 := b1.below hb1 (by omega)
  have hs := hs.on hb1
  have hb := below_chain hb (by omega) hb1
  clear hb1
  have k0 := b0.c0
  have k1 := b0.c1
  go_wp2_with fail
  refine (rright_pw _ _ _ d _ _ hs Hg.out.2.1 (by omega) hn9).mono ?_
  rintro e w2 ⟨A2, n2, c2, xs2, rfl, hs2, hx2, hv2, hb2⟩
  rw [Hv9.out.2]
  have b0 := b0.below hb2 (by omega)
  have b1 := b1.below hb2 (by omega)
  have hz2 := b1.lt
  have H2 := Lib.hid (And.intro hv2 hx2)
  have hn2 : n2 ≤ 1000000 := by
    have a : xs2.length ≤ 128 := length_le hx2 (n := 128) (by
      rw [hv2]
      have b : val xs < BIG := (big_iff h.ok Hg.out.2.1).2 Hg.out.1
      exact Nat.lt_of_le_of_lt (Nat.div_le_self _ _) b)
    rw [hs2.len] at a; omega
  clear hv2 hx2 k0 k1
  have k0 := b0.c0
  go_wp2_with fail
  have hsa := sl_one w2
  have hba := below_new w2 (.cells #[.int .u32 1] 73)
  have hza : w2.heap.size < (w2.alloc (.cells #[.int .u32 1] 73)).heap.size := by simp
  have hs2 := hs2.on hba
  have hb2 := below_chain hb2 hb2.size hba
  have b0 := b0.below hba (by omega)
  have b1 := b1.below hba (by omega)
  generalize (w2.alloc (.cells #[.int .u32 1] 73)) = w3 at *
  refine (rplus_any _ _ _ _ _ _ _ _ _ hs2 hsa (by omega) (by omega)).mono ?_
  rintro e w5 ⟨A5, n5, c5, xs5, rfl, hs5, hx5, hv5, hb5⟩
  rw [show val [1] = 1 from rfl, H2.out.1, Hv9.out.1] at hv5
  have b0 := b0.below hb5 (by omega)
  have b1 := b1.below hb5 (by omega)
  have hb2 := below_chain hb2 hb2.size hb5
  have hz5 := b1.lt
  have H5 := Lib.hid (And.intro hv5 hx5)
  clear hb5 hsa hba hza hs2 hv5 hx5 H2 k0
  have k0 := b0.c0
  go_wp2_with fail
  refine (fit_any true _ _ _ _ _ hs5 H5.out.2).mono ?_
  rw [H5.out.1]
  rintro e w4 ⟨A4, n4, c4, xs4, rfl, hs4, hx4, hv4, hb4⟩
  have b1 := b1.below hb4 (by omega)
  have k3 := b1.c0
  have k4 := b1.c1
  have k5 := b1.f 0
  have k6 := b1.f 1
  have H4 := Lib.hid hv4
  clear hv4
  generalize hr : w.heap.size = r at *
  have HRW := Lib.hid (And.intro hb hr)
  clear hb hr
  go_wp2
  exact bodyPost_ret (v := .tuple #[.agg #[.bool (decide (fitZ (sg true v) < 0)), .slice A4 n4 c4], .int .i64 (fitE (sg true v))]) (by simp [results, Tryz.results76, go_sem, k3, k4]) rfl
    ⟨A4, n4, c4, xs4, rfl, hs4.ret b1 _ _, hx4, H4.out, by rw [HRW.out.2]; exact below_ret (below_chain (below_chain HRW.out.1 (by omega) hb2) (by omega) hb4) (show r ≤ r + 1 by omega) _ _⟩
/-- A quotient of a negative number, rounded down: the magnitude is rounded up. -/
theorem neg_ceil {v p : Nat} (hp : 0 < p) (b : Bool) (hb : decide (v % p ≠ 0) = b) : -(v : Int) / (p : Int) = -((v / p + (if b then 1 else 0) : Nat) : Int) := by
  have d := Nat.div_add_mod v p
  have m := Nat.mod_lt v hp
  subst hb
  rw [Int.ediv_eq_iff_of_pos (by omega)]
  generalize v / p = q at *
  generalize v % p = r at *
  have e : (v : Int) = (p : Int) * (q : Int) + (r : Int) := by rw [← d]; simp
  by_cases h : r = 0
  · subst h
    simp only [ne_eq, not_true_eq_false, decide_false, Bool.false_eq_true, if_false]
    rw [Nat.add_zero, Int.neg_mul, Int.mul_comm (q : Int)]
    omega
  · have h2 : decide (r ≠ 0) = true := decide_eq_true h
    rw [h2, if_pos rfl, Int.neg_mul, show ((q + 1 : Nat) : Int) = (q : Int) + 1 by omega, Int.add_mul, Int.mul_comm (q : Int)]
    omega
theorem rshift_good (neg : Bool) (A : Option Addr) (n c : Nat) (xs : List Nat) (s : Int) (w : World) (h : Sl w w.heap.size A n c xs) (hv : vld neg xs = true) (h1 : -9223372036854775808 ≤ s) :
    Calls Tryz.prog 76 #[.agg #[.bool neg, .slice A n c], .int .i64 s] w (RetIE (fitZ (shf (sg neg (val xs)) s)) (fitE (shf (sg neg (val xs)) s)) w) := by
  have v1 := vld_true hv
  by_cases h0 : xs = []
  · have e : shf (sg neg (val xs)) s = 0 := by
      rw [h0, v1.2.2 h0, sg_false, val_nil]
      unfold shf
      split <;> simp
    have f := fit_yes (z := 0) big_gt
    rw [e, f.1, f.2]
    exact rshift_nil neg A n c xs s w h hv h0
  · have hpos : 0 < val xs := val_pos v1.2.1 h0
    have hlt : val xs < BIG := (big_iff h.ok v1.2.1).2 v1.1
    by_cases hs : 0 ≤ s
    · have e : shf (sg neg (val xs)) s = sg neg (val xs * pw s.toNat) := by
        unfold shf; rw [if_pos hs, sg_mul_nat]
      by_cases hb : s ≤ 4096
      · rw [e]
        have := rshl_fit neg A n c xs s.toNat w h hv h0 (by omega) _ rfl
        rwa [show ((s.toNat : Nat) : Int) = s by omega] at this
      · have hge : ¬ (sg neg (val xs * pw s.toNat)).natAbs < BIG := by
          rw [sg_abs, big_pw]
          refine Nat.not_lt.2 (Nat.le_trans (pw_le (show 4096 ≤ s.toNat by omega)) ?_)
          exact Nat.le_mul_of_pos_left _ hpos
        have f := fit_no hge
        rw [e, f.1, f.2]
        exact rshl_big neg A n c xs s w h hv h0 hs (by omega)
    · have e : shf (sg neg (val xs)) s = sg neg (val xs) / ((pw (-s).toNat : Nat) : Int) := by unfold shf; rw [if_neg hs]
      have hp : ∀ k : Nat, 0 < pw k := pw_pos
      by_cases hf : s < -4096
      · have e2 : sg neg (val xs) / ((pw (-s).toNat : Nat) : Int) = sg neg (val xs) / ((pw 4096 : Nat) : Int) := by
          refine shf_away ?_ ?_ hpos neg
          · exact Nat.lt_of_lt_of_le hlt (show BIG ≤ pw (-s).toNat by rw [big_pw]; exact pw_le (by omega))
          · rw [← big_pw]; exact hlt
        rw [e, e2]
        cases neg
        · have := rshr_pos1 A n c xs s w h hv h0 hf h1 _ rfl _ rfl
          rwa [sg_false, Int.natCast_ediv] at this
        · rcases hb : decide (val xs % pw 4096 ≠ 0) with _ | _
          · have := rshr_neg1f A n c xs s w h hv h0 hf h1 _ hb rfl _ rfl
            rw [sg_true, neg_ceil (hp _) _ hb]
            exact this
          · have := rshr_neg1t A n c xs s w h hv h0 hf h1 _ hb rfl _ rfl
            rw [sg_true, neg_ceil (hp _) _ hb]
            exact this
      · obtain ⟨d, hd⟩ : ∃ d : Nat, s = -(d : Int) := ⟨(-s).toNat, by omega⟩
        subst hd
        have hd2 : (-(-(d : Int))).toNat = d := by omega
        rw [hd2] at e
        rw [e]
        cases neg
        · have := rshr_pos2 A n c xs w h hv h0 d (by omega) (by omega) _ rfl _ rfl
          rwa [sg_false, Int.natCast_ediv] at this
        · rcases hb : decide (val xs % pw d ≠ 0) with _ | _
          · have := rshr_neg2f A n c xs w h hv h0 d (by omega) (by omega) _ hb rfl _ rfl
            rw [sg_true, neg_ceil (hp _) _ hb]
            exact this
          · have := rshr_neg2t A n c xs w h hv h0 d (by omega) (by omega) _ hb rfl _ rfl
            rw [sg_true, neg_ceil (hp _) _ hb]
            exact this
/-- The reference's Shift, for any integer and any count. -/
theorem rshift_ov {neg : Bool} {A : Option Addr} {n c : Nat} {xs : List Nat} {w : World} (h : Sl w w.heap.size A n c xs) (s : Int) (h1 : -9223372036854775808 ≤ s) (_ : s ≤ 9223372036854775807) :
    Calls Tryz.prog 76 #[.agg #[.bool neg, .slice A n c], .int .i64 s] w (RetIE (oZ (shf · s) (ov neg xs)) (oE (shf · s) (ov neg xs)) w) := by
  rcases hv : vld neg xs with _ | _
  · rw [ov_none hv]
    exact rshift_bad neg A n c xs s w h hv
  · rw [ov_some hv]
    exact rshift_good neg A n c xs s w h hv h1
end Go.Proofs.YtlibjampolcbhaaGreat
namespace Go.Proofs.YtlibjampolcbhaaGreat
open Go.RowKit
/-- R is the root of Q and T the rest. -/
def RootOf (Q R T : Nat) : Prop := R * R + T = Q ∧ T ≤ 2 * R
theorem root_digits (N j : Nat) : N / 2 ^ (2 * j) = 4 * (N / 2 ^ (2 * j + 2)) + 2 * (N / 2 ^ (2 * j + 1) % 2) + N / 2 ^ (2 * j) % 2 := by
  have a : N / 2 ^ (2 * j + 1) = N / 2 ^ (2 * j) / 2 := by rw [Nat.pow_succ, Nat.div_div_eq_div_mul]
  have b : N / 2 ^ (2 * j + 2) = N / 2 ^ (2 * j) / 2 / 2 := by rw [Nat.pow_succ, ← Nat.div_div_eq_div_mul, a]
  rw [b, a]
  omega
theorem root_more {Q R T d1 d0 : Nat} (h : RootOf Q R T) (h1 : d1 ≤ 1) (h0 : d0 ≤ 1) (hle : 4 * R + 1 ≤ 2 * (2 * T + d1) + d0) : RootOf (4 * Q + 2 * d1 + d0) (2 * R + 1) (2 * (2 * T + d1) + d0 - (4 * R + 1)) := by
  obtain ⟨e, l⟩ := h
  have q : (2 * R + 1) * (2 * R + 1) = 4 * (R * R) + 4 * R + 1 := by
    rw [Nat.add_mul, Nat.mul_add, Nat.one_mul, Nat.mul_one, Nat.mul_assoc 2 R (2 * R), Nat.mul_left_comm R 2 R]; omega
  refine ⟨?_, by omega⟩
  rw [q]; generalize R * R = z at *; omega
theorem root_less {Q R T d1 d0 : Nat} (h : RootOf Q R T) (hlt : 2 * (2 * T + d1) + d0 < 4 * R + 1) : RootOf (4 * Q + 2 * d1 + d0) (2 * R) (2 * (2 * T + d1) + d0) := by
  obtain ⟨e, l⟩ := h
  have q : (2 * R) * (2 * R) = 4 * (R * R) := by rw [Nat.mul_assoc 2 R (2 * R), Nat.mul_left_comm R 2 R]; omega
  refine ⟨?_, by omega⟩
  rw [q]; generalize R * R = z at *; omega
/-- The root at the end: its square is at most N, and the rest is 0 if and only if it is exact. -/
theorem root_end {N R T : Nat} (h : RootOf N R T) : R * R ≤ N ∧ N < (R + 1) * (R + 1) ∧ (T = 0 ↔ R * R = N) := by
  obtain ⟨e, l⟩ := h
  have q : (R + 1) * (R + 1) = R * R + 2 * R + 1 := by rw [Nat.add_mul, Nat.mul_add, Nat.one_mul, Nat.mul_one]; omega
  rw [q]
  generalize R * R = z at *
  omega
end Go.Proofs.YtlibjampolcbhaaGreat
namespace Go.Proofs.YtlibjampolcbhaaGreat
open Go.RowKit
theorem len_sm {w : World} {A : Option Addr} {n c B : Nat} {xs : List Nat} (h : Sl w B A n c xs) (hx : Nz xs) (hb : val xs < 4294967296 * BIG) : n ≤ 1000000 := by
  have a := length_le hx (n := 129) (by rw [Nat.pow_succ, Nat.mul_comm]; exact hb)
  have b := h.len
  omega
def SqMidR (q : Nat) (wr : World) (s6 : Value) (wx : World) : Prop := ∃ (A : Option Addr) (n c : Nat) (z : List Nat), s6 = .slice A n c ∧ Sl wx wx.heap.size A n c z ∧ Nz z ∧ val z = q ∧ Below wr.heap.size wr wx
set_option maxRecDepth 20000 in
set_option maxHeartbeats 4000000 in
theorem rsqrt_good (A : Option Addr) (n c : Nat) (xs : List Nat) (w : World) (h : Sl w w.heap.size A n c xs) (hv : vld false xs = true) (s N : Nat) (b : Bool) (hN : val xs = N) (hs1 : s * s ≤ N) (hs2 : N < (s + 1) * (s + 1)) (hb9 : decide (s * s = N) = b) :
    Calls Tryz.prog 79 #[.agg #[.bool false, .slice A n c]] w (RetSq (sg false s) b 0 w) := by
  have Hg := Lib.hid (vld_true hv)
  have hn : n ≤ 1000000 := by have := h.len; have := Hg.out.1; omega
  have hlt : N < BIG := by rw [← hN]; exact (big_iff h.ok (vld_true hv).2.1).2 (vld_true hv).1
  have hD1 := nbits_lt N
  have hD2 : nbits N ≤ 4096 := (nbits_pw _ _).2 (by rw [← big_pw]; exact hlt)
  have HN := Lib.hid (And.intro hN (And.intro hs1 (And.intro hs2 hb9)))
  have HL := Lib.hid hlt
  clear hN hs1 hs2 hb9 hlt
  generalize hD : nbits N = D at *
  have HD := Lib.hid (And.intro hD hD1)
  clear hD hD1
  go_enter Tryz.func79, Tryz.ntmps79
  go_wp2_with fail
  generalize hW : World.alloc (World.alloc w _) _ = W
  obtain ⟨hb, hz, b0, b1⟩ := one_boxes false A n c w W hW
  have hs := h.on hb
  clear hW
  refine (rvalid_any _ _ _ _ _ xs _ hs (Nat.le_refl _)).mono ?_
  rintro e w1 ⟨rfl, hb1⟩
  have hz1 : w.heap.size + 1 < w1.heap.size := by have := hb1.size; omega
  have b0 := b0.below hb1 (by omega)
  have b1 := b1.below hb1 (by omega)
  have hs := hs.on hb1
  have hb := below_chain hb (by omega) hb1
  clear hb1 hz hz1
  generalize hr : w.heap.size = r at *
  have Hr := Lib.hid hr
  clear hr
  have k0 := b0.c0
  have k1 := b0.c1
  go_wp2_with fail
  refine (rdigits_any _ _ _ _ _ _ hs Hg.out.2.1 hn).mono ?_
  rintro e w2 ⟨rfl, rfl⟩
  rw [HN.out.1, HD.out.1]
  go_wp2_with fail
  go_loopg [5, 6, 7, 8] ((D + 1) / 2) (fun g s5 s6 s7 _ wr => ∃ (A5 : Option Addr) (n5 c5 : Nat) (z5 : List Nat) (A6 : Option Addr) (n6 c6 : Nat) (z6 : List Nat) (i : Nat), s5 = .slice A5 n5 c5 ∧ s6 = .slice A6 n6 c6 ∧ s7 = .int .i64 (i : Int) ∧ i = g ∧ i ≤ 3000 ∧
    Sl wr wr.heap.size A5 n5 c5 z5 ∧ Sl wr wr.heap.size A6 n6 c6 z6 ∧ Hid (Nz z5) ∧ Hid (Nz z6) ∧ Hid (RootOf (N / 2 ^ (2 * i)) (val z5) (val z6)) ∧ Hid (Bx wr r false A n c) ∧ Hid (Bx wr (r + 1) false none 0 0) ∧ Hid (Sl wr wr.heap.size A n c xs) ∧ Hid (Below r w wr))
  case atStart =>
    refine ⟨none, 0, 0, [], none, 0, 0, [], (D + 1) / 2, rfl, rfl, by go_num, rfl, by omega, Sl.nil _ _, Sl.nil _ _, Nz.nil, Nz.nil, ?_, b0, b1, hs, hb⟩
    have e : N / 2 ^ (2 * ((D + 1) / 2)) = 0 := Nat.div_eq_of_lt (Nat.lt_of_lt_of_le HD.out.2 (Nat.pow_le_pow_right (by decide) (by omega)))
    rw [Hid, e]
    exact ⟨rfl, Nat.le_refl _⟩
  case round =>
    clear hs b0 b1 hb k0 k1
    obtain ⟨A5, n5, c5, z5, A6, n6, c6, z6, i, rfl, rfl, rfl, rfl, hi, hs5, hs6, Hz5, Hz6, Hrt, Hb0, Hb1, Hsx, HBr⟩ := hrel
    have hq : N / 2 ^ (2 * i) < BIG := Nat.lt_of_le_of_lt (Nat.div_le_self _ _) HL.out
    have h5b : val z5 ≤ N / 2 ^ (2 * i) := by
      have e := Hrt.out.1
      rcases Nat.eq_zero_or_pos (val z5) with h0 | h0
      · omega
      · have := Nat.le_mul_of_pos_left (val z5) h0
        omega
    have hn5 := len_sm hs5 Hz5.out (by omega)
    have hn6 := len_sm hs6 Hz6.out (by have := Hrt.out.1; omega)
    have H5b := Lib.hid (And.intro hq h5b)
    clear hq h5b
    by_cases hi0 : 0 < i
    · obtain ⟨j, rfl⟩ : ∃ j, i = j + 1 := ⟨i - 1, by omega⟩
      have hge : 0 < ((j + 1 : Nat) : Int) := by omega
      obtain ⟨d1, hd1⟩ : ∃ d, N / 2 ^ (2 * j + 1) % 2 = d := ⟨_, rfl⟩
      obtain ⟨d0, hd0⟩ : ∃ d, N / 2 ^ (2 * j) % 2 = d := ⟨_, rfl⟩
      have h1 : d1 ≤ 1 := by omega
      have h0 : d0 ≤ 1 := by omega
      have HN4 := Lib.hid (show N / 2 ^ (2 * j) = 4 * (N / 2 ^ (2 * (j + 1))) + 2 * d1 + d0 by have := root_digits N j; rw [hd1, hd0] at this; exact this)
      generalize hX : val z5 = X at *
      generalize hT : val z6 = T at *
      have HXT := Lib.hid (And.intro hX hT)
      have Hd := Lib.hid (And.intro hd1 hd0)
      clear hX hT hd1 hd0
      obtain ⟨p0, hp0⟩ : ∃ p : Nat, p = 2 * j := ⟨_, rfl⟩
      obtain ⟨p1, hp1⟩ : ∃ p : Nat, p = 2 * j + 1 := ⟨_, rfl⟩
      obtain ⟨p2, hp2⟩ : ∃ p : Nat, p = 2 * j + 2 := ⟨_, rfl⟩
      have C1 : ∀ (W : World) (B : Nat) (z : Int), Sl W B A n c xs → z = (p1 : Int) → Calls Tryz.prog 107 #[.slice A n c, .int .i64 z] W fun e w' => e = .returned (.int .u32 (d1 : Int)) ∧ w' = W := fun W B z hW hz => by
        subst hz
        exact rbit_any A n c B p1 (p1 / 32) (p1 % 32) d1 xs W hW (by omega) (by omega) (by omega) (by rw [HN.out.1, hp1]; exact Hd.out.1)
      have C0 : ∀ (W : World) (B : Nat) (z : Int), Sl W B A n c xs → z = (p0 : Int) → Calls Tryz.prog 107 #[.slice A n c, .int .i64 z] W fun e w' => e = .returned (.int .u32 (d0 : Int)) ∧ w' = W := fun W B z hW hz => by
        subst hz
        exact rbit_any A n c B p0 (p0 / 32) (p0 % 32) d0 xs W hW (by omega) (by omega) (by omega) (by rw [HN.out.1, hp0]; exact Hd.out.2)
      have HC := Lib.hid (And.intro C1 C0)
      clear C1 C0
      have HP := Lib.hid (show IntKind.i64.wrap (IntKind.i64.wrap (2 * ((j : Int) + 1)) - 1) = (p1 : Int) ∧ IntKind.i64.wrap (IntKind.i64.wrap (2 * ((j : Int) + 1)) - 2) = (p0 : Int) from by
        have e : IntKind.i64.wrap (2 * ((j : Int) + 1)) = (p2 : Int) := (IntWalk.i64_in _ (by omega)).trans (by omega)
        rw [e]
        exact ⟨(IntWalk.i64_in _ (by omega)).trans (by omega), (IntWalk.i64_in _ (by omega)).trans (by omega)⟩)
      clear hp0 hp1 hp2
      have k1 := Hb0.out.c1
      have k1d := (show Bx wr.drew r false A n c from Hb0.out).c1
      have q1 := World.new_ne _ _ k1
      go_upto_region 10 with fail
      go_cut [6] (fun s6 wx => SqMidR (2 * (2 * T + d1) + d0) wr s6 wx)
      case first =>
        go_region_held3 (fun w' => w'.cell? ⟨r, 1, none⟩ = some (.slice A n c))
          (first | exact k1d | exact k1 | go_keep)
          (first
            | (go_at_call 107
               ((with_reducible refine (HC.out.1 _ _ _ Hsx.out.drew HP.out.1).mono ?_)
                rintro e v1 ⟨rfl, rfl⟩))
            | (go_at_call 107
               ((with_reducible refine (HC.out.2 _ _ _ hxa HP.out.2).mono ?_)
                rintro e v1 ⟨rfl, rfl⟩))
            | (go_at_call 122
               ((with_reducible refine (rdouble_any _ _ _ d1 z6 _ hs6.drew hn6 h1).mono ?_)
                rintro e v2 ⟨A7, n7, c7, z7, rfl, hs7, hz7, hv7, hb7d⟩
                have hb7 := below_undrew hb7d
                rw [HXT.out.2] at hv7
                have H7 := Lib.hid (And.intro hv7 hz7)
                have hxa := Hsx.out.on hb7
                have hn7 := len_sm hs7 hz7 (by rw [hv7]; have := H5b.out; have := Hrt.out.2; omega)
                have b0 := Hb0.out.below hb7 Hb0.out.lt
                have k1 := b0.c1
                have Hbx2 := Lib.hid b0
                have H7b := Lib.hid hb7
                clear hb7 hb7d hv7 hz7 b0))
            | (go_at_call 122
               ((with_reducible refine (rdouble_any _ _ _ d0 z7 _ hs7 hn7 h0).mono ?_)
                rintro e v3 ⟨A8, n8, c8, z8, rfl, hs8, hz8, hv8, hb8⟩
                rw [H7.out.1] at hv8
                have H8 := Lib.hid (And.intro hv8 hz8)
                have HB8 := Lib.hid (below_chain H7b.out H7b.out.size hb8)
                have k1 := (Hbx2.out.below hb8 Hbx2.out.lt).c1
                clear hb8 hv8 hz8)))
        all_goals (go_wp2_with fail; go_meet; exact ⟨_, _, _, _, rfl, hs8, H8.out.2, H8.out.1, HB8.out⟩)
      case rest =>
      obtain ⟨A7, n7, c7, z7, rfl, hs7, hz7, hv7, hb7⟩ := hcut
      clear k1 k1d q1 hs6
      have HV7 := Lib.hid hv7
      have b0 := Hb0.out.below hb7 Hb0.out.lt
      have b1 := Hb1.out.below hb7 Hb1.out.lt
      have hsx := Hsx.out.on hb7
      have hs5 := hs5.on hb7
      have HB7 := Lib.hid (below_chain HBr.out (Nat.le_of_lt Hb0.out.lt) hb7)
      clear hv7 hb7 Hsx
      have K0 : ∀ (A : Option Addr) (n c : Nat) (z : List Nat) (W : World), Sl W W.heap.size A n c z → n ≤ 1000000 → Calls Tryz.prog 122 #[.slice A n c, .int .u32 0] W (RetNum (2 * val z + 0) W) := fun A n c z W hW hn => rdouble_any A n c 0 z W hW hn (by omega)
      have K1 : ∀ (A : Option Addr) (n c : Nat) (z : List Nat) (W : World), Sl W W.heap.size A n c z → n ≤ 1000000 → Calls Tryz.prog 122 #[.slice A n c, .int .u32 1] W (RetNum (2 * val z + 1) W) := fun A n c z W hW hn => rdouble_any A n c 1 z W hW hn (by omega)
      have HK := Lib.hid (And.intro K0 K1)
      clear K0 K1
      go_wp2_with fail
      refine (HK.out.1 _ _ _ z5 _ hs5 hn5).mono ?_
      rintro e w3 ⟨A8, n8, c8, z8, rfl, hs8, hz8, hv8, hb8⟩
      rw [HXT.out.1] at hv8
      have hn8 := len_sm hs8 hz8 (by rw [hv8]; have := H5b.out; omega)
      have HV8 := Lib.hid hv8
      have b0 := b0.below hb8 b0.lt
      have b1 := b1.below hb8 b1.lt
      have hsx := hsx.on hb8
      have hs5 := hs5.on hb8
      have hs7 := hs7.on hb8
      have HB8 := Lib.hid (below_chain HB7.out (by have := Hr.out; have := HB7.out.size; omega) hb8)
      clear hv8 hb8
      go_wp2_with fail
      refine (HK.out.2 _ _ _ z8 _ hs8 hn8).mono ?_
      rintro e w4 ⟨A9, n9, c9, z9, rfl, hs9, hz9, hv9, hb9⟩
      rw [HV8.out] at hv9
      have HV9 := Lib.hid (show val z9 = 4 * X + 1 by omega)
      have b0 := b0.below hb9 b0.lt
      have b1 := b1.below hb9 b1.lt
      have hsx := hsx.on hb9
      have hs5 := hs5.on hb9
      have hs7 := hs7.on hb9
      have HB9 := Lib.hid (below_chain HB8.out (by have := Hr.out; have := HB8.out.size; omega) hb9)
      clear hv9 hb9 hs8 hz8 hn8
      go_wp2_with fail
      refine (rorder_any _ _ _ _ _ _ _ _ z7 z9 _ hs7 hs9 hz7 hz9).mono ?_
      rintro e w5 ⟨rfl, q, rfl⟩
      rw [HV7.out, HV9.out]
      replace b0 := b0.drewN q
      replace b1 := b1.drewN q
      have hsx : Sl (w4.drewN q) (w4.drewN q).heap.size A n c xs := hsx.drewN q
      have hs5 : Sl (w4.drewN q) (w4.drewN q).heap.size A5 n5 c5 z5 := hs5.drewN q
      have hs7 : Sl (w4.drewN q) (w4.drewN q).heap.size A7 n7 c7 z7 := hs7.drewN q
      have hs9 : Sl (w4.drewN q) (w4.drewN q).heap.size A9 n9 c9 z9 := hs9.drewN q
      have HB10 := Lib.hid (below_drewN HB9.out q)
      clear HB7 HB8 HB9
      generalize w4.drewN q = V at *
      have HQ := Lib.hid Hrt.out
      clear Hrt
      have hmul : 2 * (j + 1) = 2 * j + 2 := by omega
      by_cases hle : 4 * X + 1 ≤ 2 * (2 * T + d1) + d0
      · have hc : 0 ≤ cmpv (2 * (2 * T + d1) + d0) (4 * X + 1) := by
          rcases Nat.lt_or_ge (4 * X + 1) (2 * (2 * T + d1) + d0) with h1 | h1
          · rw [cmpv_gt h1]; omega
          · have e : 2 * (2 * T + d1) + d0 = 4 * X + 1 := by omega
            rw [e, cmpv_eq]; omega
        have HM := Lib.hid (root_more HQ.out h1 h0 hle)
        have HLE := Lib.hid hle
        clear hle h1 h0 hmul
        go_wp2_with fail
        refine (rminus_any _ _ _ _ _ _ _ _ _ hs7 hs9 hz9 (by rw [HV7.out, HV9.out]; exact HLE.out)).mono ?_
        rintro e w6 ⟨A10, n10, c10, z10, rfl, hs10, hz10, hv10, hb10⟩
        rw [HV7.out, HV9.out] at hv10
        have HV10 := Lib.hid hv10
        have b0 := b0.below hb10 b0.lt
        have b1 := b1.below hb10 b1.lt
        have hsx := hsx.on hb10
        have hs5 := hs5.on hb10
        have HB11 := Lib.hid (below_chain HB10.out (by have := Hr.out; have := HB10.out.size; omega) hb10)
        clear hv10 hb10 hs7 hs9
        go_wp2_with fail
        refine (HK.out.2 _ _ _ z5 _ hs5 hn5).mono ?_
        rintro e w7 ⟨A11, n11, c11, z11, rfl, hs11, hz11, hv11, hb11⟩
        rw [HXT.out.1] at hv11
        have HR' := Lib.hid (show RootOf (N / 2 ^ (2 * j)) (val z11) (val z10) by rw [hv11, HV10.out, HN4.out]; exact HM.out)
        have HE := Lib.hid (And.intro (b0.below hb11 b0.lt) (And.intro (b1.below hb11 b1.lt) (And.intro (hsx.on hb11) (below_chain HB11.out (by have := Hr.out; have := HB11.out.size; omega) hb11))))
        have hs10 := hs10.on hb11
        clear hv11 hb11 b0 b1 hsx hs5
        go_wp2
        go_roundg j
        case measure => omega
        case rel => exact ⟨A11, n11, c11, z11, A10, n10, c10, z10, j, rfl, rfl, by go_num, rfl, by omega, hs11, hs10, hz11, hz10, HR'.out, HE.out.1, HE.out.2.1, HE.out.2.2.1, HE.out.2.2.2⟩
      · have hlt : 2 * (2 * T + d1) + d0 < 4 * X + 1 := by omega
        have hc : cmpv (2 * (2 * T + d1) + d0) (4 * X + 1) < 0 := by rw [cmpv_lt hlt]; decide
        have HM := Lib.hid (root_less HQ.out hlt)
        clear hle hlt h1 h0 hmul
        go_wp2_with fail
        refine (HK.out.1 _ _ _ z5 _ hs5 hn5).mono ?_
        rintro e w7 ⟨A11, n11, c11, z11, rfl, hs11, hz11, hv11, hb11⟩
        rw [HXT.out.1] at hv11
        have HR' := Lib.hid (show RootOf (N / 2 ^ (2 * j)) (val z11) (val z7) by rw [hv11, HV7.out, HN4.out]; exact HM.out)
        have HE := Lib.hid (And.intro (b0.below hb11 b0.lt) (And.intro (b1.below hb11 b1.lt) (And.intro (hsx.on hb11) (below_chain HB10.out (by have := Hr.out; have := HB10.out.size; omega) hb11))))
        have hs7 := hs7.on hb11
        clear hv11 hb11 b0 b1 hsx hs5 hs9
        go_wp2
        go_roundg j
        case measure => omega
        case rel => exact ⟨A11, n11, c11, z11, A7, n7, c7, z7, j, rfl, rfl, by go_num, rfl, by omega, hs11, hs7, hz11, hz7, HR'.out, HE.out.1, HE.out.2.1, HE.out.2.2.1, HE.out.2.2.2⟩
    · obtain rfl : i = 0 := by omega
      have hrt := Hrt.out
      rw [Nat.mul_zero, Nat.pow_zero, Nat.div_one] at hrt
      have he := root_end hrt
      have hs := root_uniq he.1 he.2.1 HN.out.2.1 HN.out.2.2.1
      have HX := Lib.hid hs
      have hb : ((n6 : Int) == 0) = b := by
        rw [← HN.out.2.2.2, Bool.eq_iff_iff, beq_iff_eq, decide_eq_true_iff, ← hs, ← he.2.2]
        constructor
        · intro e
          have := hs6.len
          rw [List.eq_nil_of_length_eq_zero (by omega : z6.length = 0)]
          rfl
        · intro e
          have := hs6.len
          rw [val_zero Hz6.out e] at this
          simp at this
          omega
      clear hrt he hs hi0
      have C := fit_any false _ _ _ z5 _ hs5 Hz5.out
      have hf := fit_yes (z := sg false (val z5)) (by rw [sg_abs]; exact Nat.lt_of_le_of_lt H5b.out.2 H5b.out.1)
      rw [hf.1, hf.2, HX.out] at C
      clear hf
      have e0 : decide ((0 : Int) < ((0 : Nat) : Int)) = false := by decide
      go_wp2_with fail
      refine C.mono ?_
      clear C
      rintro e w8 ⟨A8, n8, c8, z8, rfl, hs8, hz8, hv8, hb8⟩
      have b1 := Hb1.out.below hb8 Hb1.out.lt
      have k3 := b1.c0
      have k4 := b1.c1
      have k5 := b1.f 0
      have k6 := b1.f 1
      have l1 := b1.lt
      have H8 := Lib.hid (And.intro hz8 hv8)
      have HB8 := Lib.hid (below_chain HBr.out (Nat.le_of_lt Hb0.out.lt) hb8)
      clear hz8 hv8 hb8
      go_wp2
      refine bodyPost_ret (v := .tuple #[.agg #[.bool (decide (sg false s < 0)), .slice A8 n8 c8], .bool b, .int .i64 0]) ?_ rfl
        ⟨A8, n8, c8, z8, rfl, (hs8.ret b1 _ _).on (below_new _ _), H8.out.1, H8.out.2, ?_⟩
      · simp [results, Tryz.results79, go_sem, k3, k4, l1]
      · rw [Hr.out]
        exact (below_ret HB8.out (show r ≤ r + 1 by omega) _ _).alloc (by have := Hr.out; have := HB8.out.size; simp [World.setCell]; omega) _
end Go.Proofs.YtlibjampolcbhaaGreat
namespace Go.Proofs.YtlibjampolcbhaaGreat
open Go.RowKit
end Go.Proofs.YtlibjampolcbhaaGreat
