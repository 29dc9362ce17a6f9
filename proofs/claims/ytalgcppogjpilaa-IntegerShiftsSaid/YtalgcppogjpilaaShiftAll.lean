/-
  RefShift, SmallZ, LawShift1, merged.
-/
import Derived.Test.YtalgcppogjpilaaFit
import Derived.Test.YtalgcppogjpilaaRefLeft
import Derived.Test.YtalgcppogjpilaaRefRight
import Derived.Test.YtalgcppogjpilaaShift
import Derived.Test.YtalgcppogjpilaaSmall
import Derived.Test.YtalgcppogjpilaaLawDiv2
import Derived.Test.YtalgcppogjpilaaLawHalf1

namespace Go.Proofs.Ytalgcppogjpilaa
open Go.RowKit

set_option maxHeartbeats 1000000 in
theorem rshift_bad (neg : Bool) (A : Option Addr) (n c : Nat) (xs : List Nat) (s : Int) (w : World) (h : Sl w w.heap.size A n c xs) (hv : vld neg xs = false) :
    Calls Try.prog 40 #[.agg #[.bool neg, .slice A n c], .int .i64 s] w (RetIE 0 1 w) := by
  go_enter Try.func40, Try.ntmps40
  go_wp2_with fail
  generalize hW : World.alloc (World.alloc w _) _ = W
  obtain ⟨hb, hz, b0, b1⟩ := one_boxes neg A n c w W hW
  have hs := h.on hb
  clear hW
  refine (rvalid_any _ _ _ _ _ xs _ hs (Nat.le_refl _)).mono ?_
  rintro e w1 ⟨rfl, hb1⟩
  have hz1 : w.heap.size + 1 < w1.heap.size := by have := hb1.size; omega
  have b0 := b0.below hb1 (by omega)
  have b1 := b1.below hb1 (by omega)
  have hs := hs.on hb1
  have hb := below_chain hb (by omega) hb1
  clear hb1
  have k0 := b0.c0
  have k1 := b0.c1
  have k3 := b1.c0
  have k4 := b1.c1
  have k5 := b1.f 0
  have k6 := b1.f 1
  generalize hr : w.heap.size = r at *
  have HRW := Lib.hid (And.intro hb hr)
  clear hb hr
  go_wp2
  exact bodyPost_ret (v := .tuple #[.agg #[.bool false, .slice none 0 0], .int .i64 1]) (by simp [results, Try.results40, go_sem, k3, k4]) rfl
    ⟨none, 0, 0, [], rfl, Sl.nil _ _, Nz.nil, rfl, by rw [HRW.out.2]; exact below_ret HRW.out.1 (show r ≤ r + 1 by omega) _ _⟩

set_option maxHeartbeats 1000000 in
theorem rshift_nil (neg : Bool) (A : Option Addr) (n c : Nat) (xs : List Nat) (s : Int) (w : World) (h : Sl w w.heap.size A n c xs) (hv : vld neg xs = true) (h0 : xs = []) :
    Calls Try.prog 40 #[.agg #[.bool neg, .slice A n c], .int .i64 s] w (RetIE 0 0 w) := by
  obtain rfl : n = 0 := by have := h.len; rw [h0] at this; simpa using this.symm
  clear h0
  go_enter Try.func40, Try.ntmps40
  go_wp2_with fail
  generalize hW : World.alloc (World.alloc w _) _ = W
  obtain ⟨hb, hz, b0, b1⟩ := one_boxes neg A 0 c w W hW
  have hs := h.on hb
  clear hW
  refine (rvalid_any _ _ _ _ _ xs _ hs (Nat.le_refl _)).mono ?_
  rintro e w1 ⟨rfl, hb1⟩
  have hz1 : w.heap.size + 1 < w1.heap.size := by have := hb1.size; omega
  have b0 := b0.below hb1 (by omega)
  have b1 := b1.below hb1 (by omega)
  have hs := hs.on hb1
  have hb := below_chain hb (by omega) hb1
  clear hb1
  have k0 := b0.c0
  have k1 := b0.c1
  have k3 := b1.c0
  have k4 := b1.c1
  have k5 := b1.f 0
  have k6 := b1.f 1
  generalize hr : w.heap.size = r at *
  have HRW := Lib.hid (And.intro hb hr)
  clear hb hr
  go_wp2
  exact bodyPost_ret (v := .tuple #[.agg #[.bool false, .slice none 0 0], .int .i64 0]) (by simp [results, Try.results40, go_sem, k3, k4]) rfl
    ⟨none, 0, 0, [], rfl, Sl.nil _ _, Nz.nil, rfl, by rw [HRW.out.2]; exact below_ret HRW.out.1 (show r ≤ r + 1 by omega) _ _⟩

set_option maxHeartbeats 1000000 in
theorem rshl_big (neg : Bool) (A : Option Addr) (n c : Nat) (xs : List Nat) (s : Int) (w : World) (h : Sl w w.heap.size A n c xs) (hv : vld neg xs = true) (h0 : xs ≠ []) (hs0 : 0 ≤ s) (hb9 : 4096 < s) :
    Calls Try.prog 40 #[.agg #[.bool neg, .slice A n c], .int .i64 s] w (RetIE 0 2 w) := by
  have Hg := Lib.hid (vld_true hv)
  have hn0 := shl_pos h0 h.len
  have hn9 : n ≤ 1000000 := by have := h.len; have := Hg.out.1; omega
  clear h0
  have i4 : ((n : Int) == 0) = false := by rw [beq_eq_false_iff_ne]; omega
  go_enter Try.func40, Try.ntmps40
  go_wp2_with fail
  generalize hW : World.alloc (World.alloc w _) _ = W
  obtain ⟨hb, hz, b0, b1⟩ := one_boxes neg A n c w W hW
  have hs := h.on hb
  clear hW
  refine (rvalid_any _ _ _ _ _ xs _ hs (Nat.le_refl _)).mono ?_
  rintro e w1 ⟨rfl, hb1⟩
  have hz1 : w.heap.size + 1 < w1.heap.size := by have := hb1.size; omega
  have b0 := b0.below hb1 (by omega)
  have b1 := b1.below hb1 (by omega)
  have hs := hs.on hb1
  have hb := below_chain hb (by omega) hb1
  clear hb1
  have k0 := b0.c0
  have k1 := b0.c1
  have k3 := b1.c0
  have k4 := b1.c1
  have k5 := b1.f 0
  have k6 := b1.f 1
  generalize hr : w.heap.size = r at *
  have HRW := Lib.hid (And.intro hb hr)
  clear hb hr
  go_wp2
  exact bodyPost_ret (v := .tuple #[.agg #[.bool false, .slice none 0 0], .int .i64 2]) (by simp [results, Try.results40, go_sem, k3, k4]) rfl
    ⟨none, 0, 0, [], rfl, Sl.nil _ _, Nz.nil, rfl, by rw [HRW.out.2]; exact below_ret HRW.out.1 (show r ≤ r + 1 by omega) _ _⟩

set_option maxHeartbeats 2000000 in
theorem rshl_fit (neg : Bool) (A : Option Addr) (n c : Nat) (xs : List Nat) (s : Nat) (w : World) (h : Sl w w.heap.size A n c xs) (hv : vld neg xs = true) (h0 : xs ≠ []) (hb9 : (s : Int) ≤ 4096) (v : Nat) (hvs : val xs * 2 ^ s = v) :
    Calls Try.prog 40 #[.agg #[.bool neg, .slice A n c], .int .i64 (s : Int)] w (RetIE (fitZ (sg neg v)) (fitE (sg neg v)) w) := by
  have Hg := Lib.hid (vld_true hv)
  have hn0 := shl_pos h0 h.len
  have hn9 : n ≤ 1000000 := by have := h.len; have := Hg.out.1; omega
  clear h0
  have i4 : ((n : Int) == 0) = false := by rw [beq_eq_false_iff_ne]; omega
  have Hvs := Lib.hid hvs
  clear hvs
  have hl : (s : Int) / 32 = ((s / 32 : Nat) : Int) := by omega
  have ht : (s : Int) % 32 = ((s % 32 : Nat) : Int) := by omega
  have Hlt := Lib.hid (And.intro hl ht)
  clear hl ht
  have hs9 : s ≤ 1000000 := by omega
  go_enter Try.func40, Try.ntmps40
  go_wp2_with fail
  generalize hW : World.alloc (World.alloc w _) _ = W
  obtain ⟨hb, hz, b0, b1⟩ := one_boxes neg A n c w W hW
  have hs := h.on hb
  clear hW
  refine (rvalid_any _ _ _ _ _ xs _ hs (Nat.le_refl _)).mono ?_
  rintro e w1 ⟨rfl, hb1⟩
  have hz1 : w.heap.size + 1 < w1.heap.size := by have := hb1.size; omega
  have b0 := b0.below hb1 (by omega)
  have b1 := b1.below hb1 (by omega)
  have hs := hs.on hb1
  have hb := below_chain hb (by omega) hb1
  clear hb1
  have k0 := b0.c0
  have k1 := b0.c1
  have k3 := b1.c0
  have k4 := b1.c1
  have k5 := b1.f 0
  have k6 := b1.f 1
  generalize hr : w.heap.size = r at *
  have HRW := Lib.hid (And.intro hb hr)
  clear hb hr
  have ne1 : r ≠ r + 1 := by omega
  have ne2 : r + 1 ≠ r := by omega
  go_wp2_with fail
  go_region_held3 (fun w' => w'.cell? ⟨r, 0, none⟩ = some (.bool neg) ∧ w'.cell? ⟨r, 1, none⟩ = some (.slice A n c))
    (go_keep)
    (first
      | (go_at_call 55
         have L := fit_any neg A3 n3 c3 xs3 w3 hs3 hx3
         rw [H3.out] at L
         refine L.mono ?_
         clear L
         rintro e w4 ⟨A4, n4, c4, xs4, rfl, hs4, hx4, hv4, hb4⟩
         have e0 := d0.below hb4 (by omega)
         have e1 := d1.below hb4 (by omega)
         have j0' := e0.c0
         have j1' := e0.c1
         have j3' := e1.c0
         have j4' := e1.c1
         have j5' := e1.f 0
         have j6' := e1.f 1
         have H4 := Lib.hid (And.intro hv4 hx4)
         clear hv4 hx4)
      | (go_at_call 71
         refine (rleft_any A n c s (s / 32) (s % 32) xs _ hs.drew hn9 hs9 Hlt.out.1 Hlt.out.2).mono ?_
         rintro e w3 ⟨A3, n3, c3, xs3, rfl, hs3, hx3, hv3, hbd⟩
         have hb3 := below_undrew hbd
         rw [Hvs.out] at hv3
         have H3 := Lib.hid hv3
         clear hbd hv3
         have d0 := b0.below hb3 (by omega)
         have d1 := b1.below hb3 (by omega)
         have hz3 := d1.lt
         have j0 := d0.c0
         have j1 := d0.c1))
  go_wp2
  exact bodyPost_ret (v := .tuple #[.agg #[.bool (decide (fitZ (sg neg v) < 0)), .slice A4 n4 c4], .int .i64 (fitE (sg neg v))])
    (by simp [results, Try.results40, go_sem, j3', j4']) rfl
    ⟨A4, n4, c4, xs4, rfl, hs4.ret e1 _ _, H4.out.2, H4.out.1, by rw [HRW.out.2]; exact below_ret (below_chain (below_chain HRW.out.1 (by omega) hb3) (by omega) hb4) (show r ≤ r + 1 by omega) _ _⟩

/-- One limb, 1, made anew. -/
theorem sl_one (w : World) : Sl (w.alloc (.cells #[.int .u32 1] 51)) (w.alloc (.cells #[.int .u32 1] 51)).heap.size (some ⟨w.heap.size, 0, none⟩) 1 1 [1] :=
  Row.sl (w := w.alloc (.cells #[.int .u32 1] 51)) (zs := [1]) (Blk.new w 51 _) (show w.heap.size < (w.alloc (.cells #[.int .u32 1] 51)).heap.size by simp) 0 (Nat.le_refl _) (Nat.le_refl _) (by decide) (by unfold Ok; decide)

theorem rright_pw (A : Option Addr) (n c s : Nat) (xs : List Nat) (w : World) (h : Sl w w.heap.size A n c xs) (hx : Nz xs) (hs : s ≤ 1000000) (hn : n ≤ 1000000) :
    Calls Try.prog 79 #[.slice A n c, .int .i64 (s : Int)] w (RetNumB (val xs / pw s) (decide (val xs % pw s ≠ 0)) w) := rright_any A n c s xs w h hx hs hn

set_option maxHeartbeats 2000000 in
theorem rshr_pos1 (A : Option Addr) (n c : Nat) (xs : List Nat) (s : Int) (w : World) (h : Sl w w.heap.size A n c xs) (hv : vld false xs = true) (h0 : xs ≠ []) (hs0 : s < -4096) (hs9 : -9223372036854775808 ≤ s) (b : Bool) (hb7 : decide (val xs % pw 4096 ≠ 0) = b) (v : Nat) (hv9 : val xs / pw 4096 = v) :
    Calls Try.prog 40 #[.agg #[.bool false, .slice A n c], .int .i64 s] w (RetIE (fitZ (sg false v)) (fitE (sg false v)) w) := by
  have Hg := Lib.hid (vld_true hv)
  have hn0 := shl_pos h0 h.len
  have hn9 : n ≤ 1000000 := by have := h.len; have := Hg.out.1; omega
  clear h0
  have i4 : ((n : Int) == 0) = false := by rw [beq_eq_false_iff_ne]; omega
  have Hv9 := Lib.hid (And.intro hv9 hb7)
  clear hv9 hb7
  go_enter Try.func40, Try.ntmps40
  go_wp2_with fail
  generalize hW : World.alloc (World.alloc w _) _ = W
  obtain ⟨hb, hz, b0, b1⟩ := one_boxes false A n c w W hW
  have hs := h.on hb
  clear hW
  refine (rvalid_any _ _ _ _ _ xs _ hs (Nat.le_refl _)).mono ?_
  rintro e w1 ⟨rfl, hb1⟩
  have hz1 : w.heap.size + 1 < w1.heap.size := by have := hb1.size; omega
  have b0 := b0.below hb1 (by omega)
  have b1 := b1.below hb1 (by omega)
  have hs := hs.on hb1
  have hb := below_chain hb (by omega) hb1
  clear hb1
  have k0 := b0.c0
  have k1 := b0.c1
  go_wp2_with fail
  refine (rright_pw _ _ _ 4096 _ _ hs Hg.out.2.1 (by omega) hn9).mono ?_
  rintro e w2 ⟨A2, n2, c2, xs2, rfl, hs2, hx2, hv2, hb2⟩
  rw [Hv9.out.2]
  have b0 := b0.below hb2 (by omega)
  have b1 := b1.below hb2 (by omega)
  have hz2 := b1.lt
  have H2 := Lib.hid (And.intro hv2 hx2)
  have hn2 : n2 ≤ 1000000 := by
    have a : xs2.length ≤ 128 := length_le hx2 (n := 128) (by
      rw [hv2]
      have b : val xs < BIG := (big_iff h.ok Hg.out.2.1).2 Hg.out.1
      exact Nat.lt_of_le_of_lt (Nat.div_le_self _ _) b)
    rw [hs2.len] at a; omega
  clear hv2 hx2 k0 k1
  have k0 := b0.c0
  go_wp2_with fail
  refine (fit_any false _ _ _ _ _ hs2 H2.out.2).mono ?_
  rw [H2.out.1, Hv9.out.1]
  rintro e w4 ⟨A4, n4, c4, xs4, rfl, hs4, hx4, hv4, hb4⟩
  have b1 := b1.below hb4 (by omega)
  have k3 := b1.c0
  have k4 := b1.c1
  have k5 := b1.f 0
  have k6 := b1.f 1
  have H4 := Lib.hid hv4
  clear hv4
  generalize hr : w.heap.size = r at *
  have HRW := Lib.hid (And.intro hb hr)
  clear hb hr
  go_wp2
  exact bodyPost_ret (v := .tuple #[.agg #[.bool (decide (fitZ (sg false v) < 0)), .slice A4 n4 c4], .int .i64 (fitE (sg false v))]) (by simp [results, Try.results40, go_sem, k3, k4]) rfl
    ⟨A4, n4, c4, xs4, rfl, hs4.ret b1 _ _, hx4, H4.out, by rw [HRW.out.2]; exact below_ret (below_chain (below_chain HRW.out.1 (by omega) hb2) (by omega) hb4) (show r ≤ r + 1 by omega) _ _⟩

set_option maxHeartbeats 2000000 in
theorem rshr_pos2 (A : Option Addr) (n c : Nat) (xs : List Nat) (w : World) (h : Sl w w.heap.size A n c xs) (hv : vld false xs = true) (h0 : xs ≠ []) (d : Nat) (hd1 : 0 < d) (hd2 : d ≤ 4096) (b : Bool) (hb7 : decide (val xs % pw d ≠ 0) = b) (v : Nat) (hv9 : val xs / pw d = v) :
    Calls Try.prog 40 #[.agg #[.bool false, .slice A n c], .int .i64 (-(d : Int))] w (RetIE (fitZ (sg false v)) (fitE (sg false v)) w) := by
  have Hg := Lib.hid (vld_true hv)
  have hn0 := shl_pos h0 h.len
  have hn9 : n ≤ 1000000 := by have := h.len; have := Hg.out.1; omega
  clear h0
  have i4 : ((n : Int) == 0) = false := by rw [beq_eq_false_iff_ne]; omega
  have Hv9 := Lib.hid (And.intro hv9 hb7)
  clear hv9 hb7
  have l1 : ¬ (0 ≤ -(d : Int)) := by omega
  have l2 : ¬ (-(d : Int) < -4096) := by omega
  go_enter Try.func40, Try.ntmps40
  go_wp2_with fail
  generalize hW : World.alloc (World.alloc w _) _ = W
  obtain ⟨hb, hz, b0, b1⟩ := one_boxes false A n c w W hW
  have hs := h.on hb
  clear hW
  refine (rvalid_any _ _ _ _ _ xs _ hs (Nat.le_refl _)).mono ?_
  rintro e w1 ⟨rfl, hb1⟩
  have hz1 : w.heap.size + 1 < w1.heap.size := by have := hb1.size; omega
  have b0 := b0.below hb1 (by omega)
  have b1 := b1.below hb1 (by omega)
  have hs := hs.on hb1
  have hb := below_chain hb (by omega) hb1
  clear hb1
  have k0 := b0.c0
  have k1 := b0.c1
  go_wp2_with fail
  refine (rright_pw _ _ _ d _ _ hs Hg.out.2.1 (by omega) hn9).mono ?_
  rintro e w2 ⟨A2, n2, c2, xs2, rfl, hs2, hx2, hv2, hb2⟩
  rw [Hv9.out.2]
  have b0 := b0.below hb2 (by omega)
  have b1 := b1.below hb2 (by omega)
  have hz2 := b1.lt
  have H2 := Lib.hid (And.intro hv2 hx2)
  have hn2 : n2 ≤ 1000000 := by
    have a : xs2.length ≤ 128 := length_le hx2 (n := 128) (by
      rw [hv2]
      have b : val xs < BIG := (big_iff h.ok Hg.out.2.1).2 Hg.out.1
      exact Nat.lt_of_le_of_lt (Nat.div_le_self _ _) b)
    rw [hs2.len] at a; omega
  clear hv2 hx2 k0 k1
  have k0 := b0.c0
  go_wp2_with fail
  refine (fit_any false _ _ _ _ _ hs2 H2.out.2).mono ?_
  rw [H2.out.1, Hv9.out.1]
  rintro e w4 ⟨A4, n4, c4, xs4, rfl, hs4, hx4, hv4, hb4⟩
  have b1 := b1.below hb4 (by omega)
  have k3 := b1.c0
  have k4 := b1.c1
  have k5 := b1.f 0
  have k6 := b1.f 1
  have H4 := Lib.hid hv4
  clear hv4
  generalize hr : w.heap.size = r at *
  have HRW := Lib.hid (And.intro hb hr)
  clear hb hr
  go_wp2
  exact bodyPost_ret (v := .tuple #[.agg #[.bool (decide (fitZ (sg false v) < 0)), .slice A4 n4 c4], .int .i64 (fitE (sg false v))]) (by simp [results, Try.results40, go_sem, k3, k4]) rfl
    ⟨A4, n4, c4, xs4, rfl, hs4.ret b1 _ _, hx4, H4.out, by rw [HRW.out.2]; exact below_ret (below_chain (below_chain HRW.out.1 (by omega) hb2) (by omega) hb4) (show r ≤ r + 1 by omega) _ _⟩

set_option maxHeartbeats 2000000 in
theorem rshr_neg1f (A : Option Addr) (n c : Nat) (xs : List Nat) (s : Int) (w : World) (h : Sl w w.heap.size A n c xs) (hv : vld true xs = true) (h0 : xs ≠ []) (hs0 : s < -4096) (hs9 : -9223372036854775808 ≤ s) (b : Bool) (hb7 : decide (val xs % pw 4096 ≠ 0) = b) (hb8 : b = false) (v : Nat) (hv9 : val xs / pw 4096 = v) :
    Calls Try.prog 40 #[.agg #[.bool true, .slice A n c], .int .i64 s] w (RetIE (fitZ (sg true v)) (fitE (sg true v)) w) := by
  have Hg := Lib.hid (vld_true hv)
  have hn0 := shl_pos h0 h.len
  have hn9 : n ≤ 1000000 := by have := h.len; have := Hg.out.1; omega
  clear h0
  have i4 : ((n : Int) == 0) = false := by rw [beq_eq_false_iff_ne]; omega
  subst hb8
  have Hv9 := Lib.hid (And.intro hv9 hb7)
  clear hv9 hb7
  go_enter Try.func40, Try.ntmps40
  go_wp2_with fail
  generalize hW : World.alloc (World.alloc w _) _ = W
  obtain ⟨hb, hz, b0, b1⟩ := one_boxes true A n c w W hW
  have hs := h.on hb
  clear hW
  refine (rvalid_any _ _ _ _ _ xs _ hs (Nat.le_refl _)).mono ?_
  rintro e w1 ⟨rfl, hb1⟩
  have hz1 : w.heap.size + 1 < w1.heap.size := by have := hb1.size; omega
  have b0 := b0.below hb1 (by omega)
  have b1 := b1.below hb1 (by omega)
  have hs := hs.on hb1
  have hb := below_chain hb (by omega) hb1
  clear hb1
  have k0 := b0.c0
  have k1 := b0.c1
  go_wp2_with fail
  refine (rright_pw _ _ _ 4096 _ _ hs Hg.out.2.1 (by omega) hn9).mono ?_
  rintro e w2 ⟨A2, n2, c2, xs2, rfl, hs2, hx2, hv2, hb2⟩
  rw [Hv9.out.2]
  have b0 := b0.below hb2 (by omega)
  have b1 := b1.below hb2 (by omega)
  have hz2 := b1.lt
  have H2 := Lib.hid (And.intro hv2 hx2)
  have hn2 : n2 ≤ 1000000 := by
    have a : xs2.length ≤ 128 := length_le hx2 (n := 128) (by
      rw [hv2]
      have b : val xs < BIG := (big_iff h.ok Hg.out.2.1).2 Hg.out.1
      exact Nat.lt_of_le_of_lt (Nat.div_le_self _ _) b)
    rw [hs2.len] at a; omega
  clear hv2 hx2 k0 k1
  have k0 := b0.c0
  go_wp2_with fail
  refine (fit_any true _ _ _ _ _ hs2 H2.out.2).mono ?_
  rw [H2.out.1, Hv9.out.1]
  rintro e w4 ⟨A4, n4, c4, xs4, rfl, hs4, hx4, hv4, hb4⟩
  have b1 := b1.below hb4 (by omega)
  have k3 := b1.c0
  have k4 := b1.c1
  have k5 := b1.f 0
  have k6 := b1.f 1
  have H4 := Lib.hid hv4
  clear hv4
  generalize hr : w.heap.size = r at *
  have HRW := Lib.hid (And.intro hb hr)
  clear hb hr
  go_wp2
  exact bodyPost_ret (v := .tuple #[.agg #[.bool (decide (fitZ (sg true v) < 0)), .slice A4 n4 c4], .int .i64 (fitE (sg true v))]) (by simp [results, Try.results40, go_sem, k3, k4]) rfl
    ⟨A4, n4, c4, xs4, rfl, hs4.ret b1 _ _, hx4, H4.out, by rw [HRW.out.2]; exact below_ret (below_chain (below_chain HRW.out.1 (by omega) hb2) (by omega) hb4) (show r ≤ r + 1 by omega) _ _⟩

set_option maxHeartbeats 2000000 in
theorem rshr_neg2f (A : Option Addr) (n c : Nat) (xs : List Nat) (w : World) (h : Sl w w.heap.size A n c xs) (hv : vld true xs = true) (h0 : xs ≠ []) (d : Nat) (hd1 : 0 < d) (hd2 : d ≤ 4096) (b : Bool) (hb7 : decide (val xs % pw d ≠ 0) = b) (hb8 : b = false) (v : Nat) (hv9 : val xs / pw d = v) :
    Calls Try.prog 40 #[.agg #[.bool true, .slice A n c], .int .i64 (-(d : Int))] w (RetIE (fitZ (sg true v)) (fitE (sg true v)) w) := by
  have Hg := Lib.hid (vld_true hv)
  have hn0 := shl_pos h0 h.len
  have hn9 : n ≤ 1000000 := by have := h.len; have := Hg.out.1; omega
  clear h0
  have i4 : ((n : Int) == 0) = false := by rw [beq_eq_false_iff_ne]; omega
  subst hb8
  have Hv9 := Lib.hid (And.intro hv9 hb7)
  clear hv9 hb7
  have l1 : ¬ (0 ≤ -(d : Int)) := by omega
  have l2 : ¬ (-(d : Int) < -4096) := by omega
  go_enter Try.func40, Try.ntmps40
  go_wp2_with fail
  generalize hW : World.alloc (World.alloc w _) _ = W
  obtain ⟨hb, hz, b0, b1⟩ := one_boxes true A n c w W hW
  have hs := h.on hb
  clear hW
  refine (rvalid_any _ _ _ _ _ xs _ hs (Nat.le_refl _)).mono ?_
  rintro e w1 ⟨rfl, hb1⟩
  have hz1 : w.heap.size + 1 < w1.heap.size := by have := hb1.size; omega
  have b0 := b0.below hb1 (by omega)
  have b1 := b1.below hb1 (by omega)
  have hs := hs.on hb1
  have hb := below_chain hb (by omega) hb1
  clear hb1
  have k0 := b0.c0
  have k1 := b0.c1
  go_wp2_with fail
  refine (rright_pw _ _ _ d _ _ hs Hg.out.2.1 (by omega) hn9).mono ?_
  rintro e w2 ⟨A2, n2, c2, xs2, rfl, hs2, hx2, hv2, hb2⟩
  rw [Hv9.out.2]
  have b0 := b0.below hb2 (by omega)
  have b1 := b1.below hb2 (by omega)
  have hz2 := b1.lt
  have H2 := Lib.hid (And.intro hv2 hx2)
  have hn2 : n2 ≤ 1000000 := by
    have a : xs2.length ≤ 128 := length_le hx2 (n := 128) (by
      rw [hv2]
      have b : val xs < BIG := (big_iff h.ok Hg.out.2.1).2 Hg.out.1
      exact Nat.lt_of_le_of_lt (Nat.div_le_self _ _) b)
    rw [hs2.len] at a; omega
  clear hv2 hx2 k0 k1
  have k0 := b0.c0
  go_wp2_with fail
  refine (fit_any true _ _ _ _ _ hs2 H2.out.2).mono ?_
  rw [H2.out.1, Hv9.out.1]
  rintro e w4 ⟨A4, n4, c4, xs4, rfl, hs4, hx4, hv4, hb4⟩
  have b1 := b1.below hb4 (by omega)
  have k3 := b1.c0
  have k4 := b1.c1
  have k5 := b1.f 0
  have k6 := b1.f 1
  have H4 := Lib.hid hv4
  clear hv4
  generalize hr : w.heap.size = r at *
  have HRW := Lib.hid (And.intro hb hr)
  clear hb hr
  go_wp2
  exact bodyPost_ret (v := .tuple #[.agg #[.bool (decide (fitZ (sg true v) < 0)), .slice A4 n4 c4], .int .i64 (fitE (sg true v))]) (by simp [results, Try.results40, go_sem, k3, k4]) rfl
    ⟨A4, n4, c4, xs4, rfl, hs4.ret b1 _ _, hx4, H4.out, by rw [HRW.out.2]; exact below_ret (below_chain (below_chain HRW.out.1 (by omega) hb2) (by omega) hb4) (show r ≤ r + 1 by omega) _ _⟩

set_option maxHeartbeats 2000000 in
theorem rshr_neg1t (A : Option Addr) (n c : Nat) (xs : List Nat) (s : Int) (w : World) (h : Sl w w.heap.size A n c xs) (hv : vld true xs = true) (h0 : xs ≠ []) (hs0 : s < -4096) (hs9 : -9223372036854775808 ≤ s) (b : Bool) (hb7 : decide (val xs % pw 4096 ≠ 0) = b) (hb8 : b = true) (v : Nat) (hv9 : val xs / pw 4096 + 1 = v) :
    Calls Try.prog 40 #[.agg #[.bool true, .slice A n c], .int .i64 s] w (RetIE (fitZ (sg true v)) (fitE (sg true v)) w) := by
  have Hg := Lib.hid (vld_true hv)
  have hn0 := shl_pos h0 h.len
  have hn9 : n ≤ 1000000 := by have := h.len; have := Hg.out.1; omega
  clear h0
  have i4 : ((n : Int) == 0) = false := by rw [beq_eq_false_iff_ne]; omega
  subst hb8
  have Hv9 := Lib.hid (And.intro hv9 hb7)
  clear hv9 hb7
  go_enter Try.func40, Try.ntmps40
  go_wp2_with fail
  generalize hW : World.alloc (World.alloc w _) _ = W
  obtain ⟨hb, hz, b0, b1⟩ := one_boxes true A n c w W hW
  have hs := h.on hb
  clear hW
  refine (rvalid_any _ _ _ _ _ xs _ hs (Nat.le_refl _)).mono ?_
  rintro e w1 ⟨rfl, hb1⟩
  have hz1 : w.heap.size + 1 < w1.heap.size := by have := hb1.size; omega
  have b0 := b0.below hb1 (by omega)
  have b1 := b1.below hb1 (by omega)
  have hs := hs.on hb1
  have hb := below_chain hb (by omega) hb1
  clear hb1
  have k0 := b0.c0
  have k1 := b0.c1
  go_wp2_with fail
  refine (rright_pw _ _ _ 4096 _ _ hs Hg.out.2.1 (by omega) hn9).mono ?_
  rintro e w2 ⟨A2, n2, c2, xs2, rfl, hs2, hx2, hv2, hb2⟩
  rw [Hv9.out.2]
  have b0 := b0.below hb2 (by omega)
  have b1 := b1.below hb2 (by omega)
  have hz2 := b1.lt
  have H2 := Lib.hid (And.intro hv2 hx2)
  have hn2 : n2 ≤ 1000000 := by
    have a : xs2.length ≤ 128 := length_le hx2 (n := 128) (by
      rw [hv2]
      have b : val xs < BIG := (big_iff h.ok Hg.out.2.1).2 Hg.out.1
      exact Nat.lt_of_le_of_lt (Nat.div_le_self _ _) b)
    rw [hs2.len] at a; omega
  clear hv2 hx2 k0 k1
  have k0 := b0.c0
  go_wp2_with fail
  have hsa := sl_one w2
  have hba := below_new w2 (.cells #[.int .u32 1] 51)
  have hza : w2.heap.size < (w2.alloc (.cells #[.int .u32 1] 51)).heap.size := by simp
  have hs2 := hs2.on hba
  have hb2 := below_chain hb2 hb2.size hba
  have b0 := b0.below hba (by omega)
  have b1 := b1.below hba (by omega)
  generalize (w2.alloc (.cells #[.int .u32 1] 51)) = w3 at *
  refine (rplus_any _ _ _ _ _ _ _ _ _ hs2 hsa (by omega) (by omega)).mono ?_
  rintro e w5 ⟨A5, n5, c5, xs5, rfl, hs5, hx5, hv5, hb5⟩
  rw [show val [1] = 1 from rfl, H2.out.1, Hv9.out.1] at hv5
  have b0 := b0.below hb5 (by omega)
  have b1 := b1.below hb5 (by omega)
  have hb2 := below_chain hb2 hb2.size hb5
  have hz5 := b1.lt
  have H5 := Lib.hid (And.intro hv5 hx5)
  clear hb5 hsa hba hza hs2 hv5 hx5 H2 k0
  have k0 := b0.c0
  go_wp2_with fail
  refine (fit_any true _ _ _ _ _ hs5 H5.out.2).mono ?_
  rw [H5.out.1]
  rintro e w4 ⟨A4, n4, c4, xs4, rfl, hs4, hx4, hv4, hb4⟩
  have b1 := b1.below hb4 (by omega)
  have k3 := b1.c0
  have k4 := b1.c1
  have k5 := b1.f 0
  have k6 := b1.f 1
  have H4 := Lib.hid hv4
  clear hv4
  generalize hr : w.heap.size = r at *
  have HRW := Lib.hid (And.intro hb hr)
  clear hb hr
  go_wp2
  exact bodyPost_ret (v := .tuple #[.agg #[.bool (decide (fitZ (sg true v) < 0)), .slice A4 n4 c4], .int .i64 (fitE (sg true v))]) (by simp [results, Try.results40, go_sem, k3, k4]) rfl
    ⟨A4, n4, c4, xs4, rfl, hs4.ret b1 _ _, hx4, H4.out, by rw [HRW.out.2]; exact below_ret (below_chain (below_chain HRW.out.1 (by omega) hb2) (by omega) hb4) (show r ≤ r + 1 by omega) _ _⟩

set_option maxHeartbeats 2000000 in
theorem rshr_neg2t (A : Option Addr) (n c : Nat) (xs : List Nat) (w : World) (h : Sl w w.heap.size A n c xs) (hv : vld true xs = true) (h0 : xs ≠ []) (d : Nat) (hd1 : 0 < d) (hd2 : d ≤ 4096) (b : Bool) (hb7 : decide (val xs % pw d ≠ 0) = b) (hb8 : b = true) (v : Nat) (hv9 : val xs / pw d + 1 = v) :
    Calls Try.prog 40 #[.agg #[.bool true, .slice A n c], .int .i64 (-(d : Int))] w (RetIE (fitZ (sg true v)) (fitE (sg true v)) w) := by
  have Hg := Lib.hid (vld_true hv)
  have hn0 := shl_pos h0 h.len
  have hn9 : n ≤ 1000000 := by have := h.len; have := Hg.out.1; omega
  clear h0
  have i4 : ((n : Int) == 0) = false := by rw [beq_eq_false_iff_ne]; omega
  subst hb8
  have Hv9 := Lib.hid (And.intro hv9 hb7)
  clear hv9 hb7
  have l1 : ¬ (0 ≤ -(d : Int)) := by omega
  have l2 : ¬ (-(d : Int) < -4096) := by omega
  go_enter Try.func40, Try.ntmps40
  go_wp2_with fail
  generalize hW : World.alloc (World.alloc w _) _ = W
  obtain ⟨hb, hz, b0, b1⟩ := one_boxes true A n c w W hW
  have hs := h.on hb
  clear hW
  refine (rvalid_any _ _ _ _ _ xs _ hs (Nat.le_refl _)).mono ?_
  rintro e w1 ⟨rfl, hb1⟩
  have hz1 : w.heap.size + 1 < w1.heap.size := by have := hb1.size; omega
  have b0 := b0.below hb1 (by omega)
  have b1 := b1.below hb1 (by omega)
  have hs := hs.on hb1
  have hb := below_chain hb (by omega) hb1
  clear hb1
  have k0 := b0.c0
  have k1 := b0.c1
  go_wp2_with fail
  refine (rright_pw _ _ _ d _ _ hs Hg.out.2.1 (by omega) hn9).mono ?_
  rintro e w2 ⟨A2, n2, c2, xs2, rfl, hs2, hx2, hv2, hb2⟩
  rw [Hv9.out.2]
  have b0 := b0.below hb2 (by omega)
  have b1 := b1.below hb2 (by omega)
  have hz2 := b1.lt
  have H2 := Lib.hid (And.intro hv2 hx2)
  have hn2 : n2 ≤ 1000000 := by
    have a : xs2.length ≤ 128 := length_le hx2 (n := 128) (by
      rw [hv2]
      have b : val xs < BIG := (big_iff h.ok Hg.out.2.1).2 Hg.out.1
      exact Nat.lt_of_le_of_lt (Nat.div_le_self _ _) b)
    rw [hs2.len] at a; omega
  clear hv2 hx2 k0 k1
  have k0 := b0.c0
  go_wp2_with fail
  have hsa := sl_one w2
  have hba := below_new w2 (.cells #[.int .u32 1] 51)
  have hza : w2.heap.size < (w2.alloc (.cells #[.int .u32 1] 51)).heap.size := by simp
  have hs2 := hs2.on hba
  have hb2 := below_chain hb2 hb2.size hba
  have b0 := b0.below hba (by omega)
  have b1 := b1.below hba (by omega)
  generalize (w2.alloc (.cells #[.int .u32 1] 51)) = w3 at *
  refine (rplus_any _ _ _ _ _ _ _ _ _ hs2 hsa (by omega) (by omega)).mono ?_
  rintro e w5 ⟨A5, n5, c5, xs5, rfl, hs5, hx5, hv5, hb5⟩
  rw [show val [1] = 1 from rfl, H2.out.1, Hv9.out.1] at hv5
  have b0 := b0.below hb5 (by omega)
  have b1 := b1.below hb5 (by omega)
  have hb2 := below_chain hb2 hb2.size hb5
  have hz5 := b1.lt
  have H5 := Lib.hid (And.intro hv5 hx5)
  clear hb5 hsa hba hza hs2 hv5 hx5 H2 k0
  have k0 := b0.c0
  go_wp2_with fail
  refine (fit_any true _ _ _ _ _ hs5 H5.out.2).mono ?_
  rw [H5.out.1]
  rintro e w4 ⟨A4, n4, c4, xs4, rfl, hs4, hx4, hv4, hb4⟩
  have b1 := b1.below hb4 (by omega)
  have k3 := b1.c0
  have k4 := b1.c1
  have k5 := b1.f 0
  have k6 := b1.f 1
  have H4 := Lib.hid hv4
  clear hv4
  generalize hr : w.heap.size = r at *
  have HRW := Lib.hid (And.intro hb hr)
  clear hb hr
  go_wp2
  exact bodyPost_ret (v := .tuple #[.agg #[.bool (decide (fitZ (sg true v) < 0)), .slice A4 n4 c4], .int .i64 (fitE (sg true v))]) (by simp [results, Try.results40, go_sem, k3, k4]) rfl
    ⟨A4, n4, c4, xs4, rfl, hs4.ret b1 _ _, hx4, H4.out, by rw [HRW.out.2]; exact below_ret (below_chain (below_chain HRW.out.1 (by omega) hb2) (by omega) hb4) (show r ≤ r + 1 by omega) _ _⟩

/-- A quotient of a negative number, rounded down: the magnitude is rounded up. -/
theorem neg_ceil {v p : Nat} (hp : 0 < p) (b : Bool) (hb : decide (v % p ≠ 0) = b) : -(v : Int) / (p : Int) = -((v / p + (if b then 1 else 0) : Nat) : Int) := by
  have d := Nat.div_add_mod v p
  have m := Nat.mod_lt v hp
  subst hb
  rw [Int.ediv_eq_iff_of_pos (by omega)]
  generalize v / p = q at *
  generalize v % p = r at *
  have e : (v : Int) = (p : Int) * (q : Int) + (r : Int) := by rw [← d]; simp
  by_cases h : r = 0
  · subst h
    simp only [ne_eq, not_true_eq_false, decide_false, Bool.false_eq_true, if_false]
    rw [Nat.add_zero, Int.neg_mul, Int.mul_comm (q : Int)]
    omega
  · have h2 : decide (r ≠ 0) = true := decide_eq_true h
    rw [h2, if_pos rfl, Int.neg_mul, show ((q + 1 : Nat) : Int) = (q : Int) + 1 by omega, Int.add_mul, Int.mul_comm (q : Int)]
    omega

theorem rshift_good (neg : Bool) (A : Option Addr) (n c : Nat) (xs : List Nat) (s : Int) (w : World) (h : Sl w w.heap.size A n c xs) (hv : vld neg xs = true) (h1 : -9223372036854775808 ≤ s) :
    Calls Try.prog 40 #[.agg #[.bool neg, .slice A n c], .int .i64 s] w (RetIE (fitZ (shf (sg neg (val xs)) s)) (fitE (shf (sg neg (val xs)) s)) w) := by
  have v1 := vld_true hv
  by_cases h0 : xs = []
  · have e : shf (sg neg (val xs)) s = 0 := by
      rw [h0, v1.2.2 h0, sg_false, val_nil]
      unfold shf
      split <;> simp
    have f := fit_yes (z := 0) big_gt
    rw [e, f.1, f.2]
    exact rshift_nil neg A n c xs s w h hv h0
  · have hpos : 0 < val xs := val_pos v1.2.1 h0
    have hlt : val xs < BIG := (big_iff h.ok v1.2.1).2 v1.1
    by_cases hs : 0 ≤ s
    · have e : shf (sg neg (val xs)) s = sg neg (val xs * pw s.toNat) := by
        unfold shf; rw [if_pos hs, sg_mul_nat]
      by_cases hb : s ≤ 4096
      · rw [e]
        have := rshl_fit neg A n c xs s.toNat w h hv h0 (by omega) _ rfl
        rwa [show ((s.toNat : Nat) : Int) = s by omega] at this
      · have hge : ¬ (sg neg (val xs * pw s.toNat)).natAbs < BIG := by
          rw [sg_abs, big_pw]
          refine Nat.not_lt.2 (Nat.le_trans (pw_le (show 4096 ≤ s.toNat by omega)) ?_)
          exact Nat.le_mul_of_pos_left _ hpos
        have f := fit_no hge
        rw [e, f.1, f.2]
        exact rshl_big neg A n c xs s w h hv h0 hs (by omega)
    · have e : shf (sg neg (val xs)) s = sg neg (val xs) / ((pw (-s).toNat : Nat) : Int) := by unfold shf; rw [if_neg hs]
      have hp : ∀ k : Nat, 0 < pw k := pw_pos
      by_cases hf : s < -4096
      · have e2 : sg neg (val xs) / ((pw (-s).toNat : Nat) : Int) = sg neg (val xs) / ((pw 4096 : Nat) : Int) := by
          refine shf_away ?_ ?_ hpos neg
          · exact Nat.lt_of_lt_of_le hlt (show BIG ≤ pw (-s).toNat by rw [big_pw]; exact pw_le (by omega))
          · rw [← big_pw]; exact hlt
        rw [e, e2]
        cases neg
        · have := rshr_pos1 A n c xs s w h hv h0 hf h1 _ rfl _ rfl
          rwa [sg_false, Int.natCast_ediv] at this
        · rcases hb : decide (val xs % pw 4096 ≠ 0) with _ | _
          · have := rshr_neg1f A n c xs s w h hv h0 hf h1 _ hb rfl _ rfl
            rw [sg_true, neg_ceil (hp _) _ hb]
            exact this
          · have := rshr_neg1t A n c xs s w h hv h0 hf h1 _ hb rfl _ rfl
            rw [sg_true, neg_ceil (hp _) _ hb]
            exact this
      · obtain ⟨d, hd⟩ : ∃ d : Nat, s = -(d : Int) := ⟨(-s).toNat, by omega⟩
        subst hd
        have hd2 : (-(-(d : Int))).toNat = d := by omega
        rw [hd2] at e
        rw [e]
        cases neg
        · have := rshr_pos2 A n c xs w h hv h0 d (by omega) (by omega) _ rfl _ rfl
          rwa [sg_false, Int.natCast_ediv] at this
        · rcases hb : decide (val xs % pw d ≠ 0) with _ | _
          · have := rshr_neg2f A n c xs w h hv h0 d (by omega) (by omega) _ hb rfl _ rfl
            rw [sg_true, neg_ceil (hp _) _ hb]
            exact this
          · have := rshr_neg2t A n c xs w h hv h0 d (by omega) (by omega) _ hb rfl _ rfl
            rw [sg_true, neg_ceil (hp _) _ hb]
            exact this

/-- The reference's Shift, for any integer and any count. -/
theorem rshift_ov {neg : Bool} {A : Option Addr} {n c : Nat} {xs : List Nat} {w : World} (h : Sl w w.heap.size A n c xs) (s : Int) (h1 : -9223372036854775808 ≤ s) (_ : s ≤ 9223372036854775807) :
    Calls Try.prog 40 #[.agg #[.bool neg, .slice A n c], .int .i64 s] w (RetIE (oZ (shf · s) (ov neg xs)) (oE (shf · s) (ov neg xs)) w) := by
  rcases hv : vld neg xs with _ | _
  · rw [ov_none hv]
    exact rshift_bad neg A n c xs s w h hv
  · rw [ov_some hv]
    exact rshift_good neg A n c xs s w h hv h1

end Go.Proofs.Ytalgcppogjpilaa

namespace Go.Proofs.Ytalgcppogjpilaa
open Go.RowKit

/-- What Bits hands back. -/
def btZ : Option Int → Int
  | some a => (nbits a.natAbs : Nat)
  | none => 0
def btE : Option Int → Int
  | some _ => 0
  | none => 1
/-- What Small hands back. -/
def smB : Option Int → Bool
  | some a => decide (-9223372036854775808 ≤ a ∧ a ≤ 9223372036854775807)
  | none => false
def smZ (o : Option Int) : Int := if smB o then o.getD 0 else 0

theorem drop_lt {xs : List Nat} {n j : Nat} (hx : Ok xs) (hl : xs.length = n) (hn : n ≤ 2) (hj : 1 ≤ j) : val (xs.drop j) < 4294967296 := by
  have a := val_lt (hx.drop j)
  rw [List.length_drop, hl] at a
  exact Nat.lt_of_lt_of_le a (show 4294967296 ^ (n - j) ≤ 4294967296 ^ 1 from Nat.pow_le_pow_right (by decide) (by omega))

set_option maxHeartbeats 1000000 in
theorem bits_bad (neg : Bool) (A : Option Addr) (n c : Nat) (xs : List Nat) (w : World) (h : Sl w w.heap.size A n c xs) (hv : vld neg xs = false) :
    Calls Try.prog 41 #[.agg #[.bool neg, .slice A n c]] w fun e w' => e = .returned (.tuple #[.int .i64 0, .int .i64 1]) ∧ Below w.heap.size w w' := by
  go_enter Try.func41, Try.ntmps41
  go_wp2_with fail
  have hs := h.on (below_new w (.cells #[.bool neg, .slice A n c] 24))
  refine (valid_any _ _ _ _ _ xs _ hs (Nat.le_refl _)).mono ?_
  rintro e w1 ⟨rfl, hb1⟩
  have hb := below_chain (below_new w (.cells #[.bool neg, .slice A n c] 24)) (by simp) hb1
  clear hb1 hs
  go_wp2
  go_ret2
  exact ⟨rfl, hb⟩

set_option maxHeartbeats 1000000 in
theorem bits_good (neg : Bool) (A : Option Addr) (n c N : Nat) (xs : List Nat) (w : World) (h : Sl w w.heap.size A n c xs) (hv : vld neg xs = true) (hN : nbits (val xs) = N) :
    Calls Try.prog 41 #[.agg #[.bool neg, .slice A n c]] w fun e w' => e = .returned (.tuple #[.int .i64 (N : Int), .int .i64 0]) ∧ Below w.heap.size w w' := by
  have Hg := Lib.hid (vld_true hv)
  have hn9 : n ≤ 1000000 := by have := h.len; have := Hg.out.1; omega
  have HN := Lib.hid hN
  clear hN
  go_enter Try.func41, Try.ntmps41
  go_wp2_with fail
  have hs := h.on (below_new w (.cells #[.bool neg, .slice A n c] 24))
  have b0 := Bx.new w neg A n c
  refine (valid_any _ _ _ _ _ xs _ hs (Nat.le_refl _)).mono ?_
  rintro e w1 ⟨rfl, hb1⟩
  have hb := below_chain (below_new w (.cells #[.bool neg, .slice A n c] 24)) (by simp) hb1
  have hs1 := hs.on hb1
  have b1 := b0.below hb1 (by simp)
  have k0 := b1.c0
  have k1 := b1.c1
  clear hb1 b0 hs
  go_wp2_with fail
  refine (bitsMag_any _ _ _ _ _ _ hs1 Hg.out.2.1 hn9).mono ?_
  rintro e w2 ⟨rfl, rfl⟩
  rw [HN.out]
  go_wp2
  go_ret2
  exact ⟨rfl, hb⟩

theorem bits_ov {neg : Bool} {A : Option Addr} {n c : Nat} {xs : List Nat} {w : World} (h : Sl w w.heap.size A n c xs) :
    Calls Try.prog 41 #[.agg #[.bool neg, .slice A n c]] w fun e w' => e = .returned (.tuple #[.int .i64 (btZ (ov neg xs)), .int .i64 (btE (ov neg xs))]) ∧ Below w.heap.size w w' := by
  rcases hv : vld neg xs with _ | _
  · rw [ov_none hv]
    exact bits_bad neg A n c xs w h hv
  · rw [ov_some hv, btZ, btE, sg_abs]
    exact bits_good neg A n c _ xs w h hv rfl

set_option maxHeartbeats 1000000 in
theorem rbits_bad (neg : Bool) (A : Option Addr) (n c : Nat) (xs : List Nat) (w : World) (h : Sl w w.heap.size A n c xs) (hv : vld neg xs = false) :
    Calls Try.prog 42 #[.agg #[.bool neg, .slice A n c]] w fun e w' => e = .returned (.tuple #[.int .i64 0, .int .i64 1]) ∧ Below w.heap.size w w' := by
  go_enter Try.func42, Try.ntmps42
  go_wp2_with fail
  have hs := h.on (below_new w (.cells #[.bool neg, .slice A n c] 24))
  refine (rvalid_any _ _ _ _ _ xs _ hs (Nat.le_refl _)).mono ?_
  rintro e w1 ⟨rfl, hb1⟩
  have hb := below_chain (below_new w (.cells #[.bool neg, .slice A n c] 24)) (by simp) hb1
  clear hb1 hs
  go_wp2
  go_ret2
  exact ⟨rfl, hb⟩

set_option maxHeartbeats 1000000 in
theorem rbits_good (neg : Bool) (A : Option Addr) (n c N : Nat) (xs : List Nat) (w : World) (h : Sl w w.heap.size A n c xs) (hv : vld neg xs = true) (hN : nbits (val xs) = N) :
    Calls Try.prog 42 #[.agg #[.bool neg, .slice A n c]] w fun e w' => e = .returned (.tuple #[.int .i64 (N : Int), .int .i64 0]) ∧ Below w.heap.size w w' := by
  have Hg := Lib.hid (vld_true hv)
  have hn9 : n ≤ 1000000 := by have := h.len; have := Hg.out.1; omega
  have HN := Lib.hid hN
  clear hN
  go_enter Try.func42, Try.ntmps42
  go_wp2_with fail
  have hs := h.on (below_new w (.cells #[.bool neg, .slice A n c] 24))
  have b0 := Bx.new w neg A n c
  refine (rvalid_any _ _ _ _ _ xs _ hs (Nat.le_refl _)).mono ?_
  rintro e w1 ⟨rfl, hb1⟩
  have hb := below_chain (below_new w (.cells #[.bool neg, .slice A n c] 24)) (by simp) hb1
  have hs1 := hs.on hb1
  have b1 := b0.below hb1 (by simp)
  have k0 := b1.c0
  have k1 := b1.c1
  clear hb1 b0 hs
  go_wp2_with fail
  refine (rdigits_any _ _ _ _ _ _ hs1 Hg.out.2.1 hn9).mono ?_
  rintro e w2 ⟨rfl, rfl⟩
  rw [HN.out]
  go_wp2
  go_ret2
  exact ⟨rfl, hb⟩

theorem rbits_ov {neg : Bool} {A : Option Addr} {n c : Nat} {xs : List Nat} {w : World} (h : Sl w w.heap.size A n c xs) :
    Calls Try.prog 42 #[.agg #[.bool neg, .slice A n c]] w fun e w' => e = .returned (.tuple #[.int .i64 (btZ (ov neg xs)), .int .i64 (btE (ov neg xs))]) ∧ Below w.heap.size w w' := by
  rcases hv : vld neg xs with _ | _
  · rw [ov_none hv]
    exact rbits_bad neg A n c xs w h hv
  · rw [ov_some hv, btZ, btE, sg_abs]
    exact rbits_good neg A n c _ xs w h hv rfl

set_option maxHeartbeats 1000000 in
theorem small_bad (neg : Bool) (A : Option Addr) (n c : Nat) (xs : List Nat) (w : World) (h : Sl w w.heap.size A n c xs) (hv : vld neg xs = false) :
    Calls Try.prog 19 #[.agg #[.bool neg, .slice A n c]] w fun e w' => e = .returned (.tuple #[.int .i64 0, .bool false]) ∧ Below w.heap.size w w' := by
  go_enter Try.func19, Try.ntmps19
  go_wp2_with fail
  have hs := h.on (below_new w (.cells #[.bool neg, .slice A n c] 24))
  have b0 := Bx.new w neg A n c
  refine (valid_any _ _ _ _ _ xs _ hs (Nat.le_refl _)).mono ?_
  rintro e w1 ⟨rfl, hb1⟩
  have hb := below_chain (below_new w (.cells #[.bool neg, .slice A n c] 24)) (by simp) hb1
  have hs1 := hs.on hb1
  have b1 := b0.below hb1 (by simp)
  have k0 := b1.c0
  have k1 := b1.c1
  clear hb1 b0 hs
  go_wp2
  go_ret2
  exact ⟨rfl, hb⟩

set_option maxHeartbeats 1000000 in
theorem small_long (neg : Bool) (A : Option Addr) (n c : Nat) (xs : List Nat) (w : World) (h : Sl w w.heap.size A n c xs) (hv : vld neg xs = true) (hn : 2 < n) :
    Calls Try.prog 19 #[.agg #[.bool neg, .slice A n c]] w fun e w' => e = .returned (.tuple #[.int .i64 0, .bool false]) ∧ Below w.heap.size w w' := by
  have d2 : decide (2 < (n : Int)) = true := by simp; omega
  go_enter Try.func19, Try.ntmps19
  go_wp2_with fail
  have hs := h.on (below_new w (.cells #[.bool neg, .slice A n c] 24))
  have b0 := Bx.new w neg A n c
  refine (valid_any _ _ _ _ _ xs _ hs (Nat.le_refl _)).mono ?_
  rintro e w1 ⟨rfl, hb1⟩
  have hb := below_chain (below_new w (.cells #[.bool neg, .slice A n c] 24)) (by simp) hb1
  have hs1 := hs.on hb1
  have b1 := b0.below hb1 (by simp)
  have k0 := b1.c0
  have k1 := b1.c1
  clear hb1 b0 hs
  go_wp2
  go_ret2
  exact ⟨rfl, hb⟩

set_option maxHeartbeats 1000000 in
theorem small_neg (A : Option Addr) (n c : Nat) (xs : List Nat) (w : World) (h : Sl w w.heap.size A n c xs) (hv : vld true xs = true) (hn : n ≤ 2) (h1 : (9223372036854775808 : Int) < (val xs : Int)) :
    Calls Try.prog 19 #[.agg #[.bool true, .slice A n c]] w fun e w' => e = .returned (.tuple #[.int .i64 0, .bool false]) ∧ Below w.heap.size w w' := by
  have d2 : decide (2 < (n : Int)) = false := by simp; omega
  have hlt : val xs < 18446744073709551616 := by
    have a := val_lt h.ok
    rw [h.len] at a
    exact Nat.lt_of_lt_of_le a (show 4294967296 ^ n ≤ 4294967296 ^ 2 from Nat.pow_le_pow_right (by decide) hn)
  go_enter Try.func19, Try.ntmps19
  go_wp2_with fail
  have hs := h.on (below_new w (.cells #[.bool true, .slice A n c] 24))
  have b0 := Bx.new w true A n c
  refine (valid_any _ _ _ _ _ xs _ hs (Nat.le_refl _)).mono ?_
  rintro e w1 ⟨rfl, hb1⟩
  have hb := below_chain (below_new w (.cells #[.bool true, .slice A n c] 24)) (by simp) hb1
  have hs1 := hs.on hb1
  have b1 := b0.below hb1 (by simp)
  have k0 := b1.c0
  have k1 := b1.c1
  clear hb1 b0 hs
  go_wp2_with fail
  refine (wordOf_any _ _ _ _ xs _ hs1 hn).mono ?_
  rintro e w2 ⟨rfl, rfl⟩
  generalize val xs = v at *
  go_wp2
  go_ret2
  exact ⟨rfl, hb⟩

set_option maxHeartbeats 1000000 in
theorem small_pos (A : Option Addr) (n c : Nat) (xs : List Nat) (w : World) (h : Sl w w.heap.size A n c xs) (hv : vld false xs = true) (hn : n ≤ 2) (h1 : (9223372036854775808 : Int) ≤ (val xs : Int)) :
    Calls Try.prog 19 #[.agg #[.bool false, .slice A n c]] w fun e w' => e = .returned (.tuple #[.int .i64 0, .bool false]) ∧ Below w.heap.size w w' := by
  have d2 : decide (2 < (n : Int)) = false := by simp; omega
  have hlt : val xs < 18446744073709551616 := by
    have a := val_lt h.ok
    rw [h.len] at a
    exact Nat.lt_of_lt_of_le a (show 4294967296 ^ n ≤ 4294967296 ^ 2 from Nat.pow_le_pow_right (by decide) hn)
  go_enter Try.func19, Try.ntmps19
  go_wp2_with fail
  have hs := h.on (below_new w (.cells #[.bool false, .slice A n c] 24))
  have b0 := Bx.new w false A n c
  refine (valid_any _ _ _ _ _ xs _ hs (Nat.le_refl _)).mono ?_
  rintro e w1 ⟨rfl, hb1⟩
  have hb := below_chain (below_new w (.cells #[.bool false, .slice A n c] 24)) (by simp) hb1
  have hs1 := hs.on hb1
  have b1 := b0.below hb1 (by simp)
  have k0 := b1.c0
  have k1 := b1.c1
  clear hb1 b0 hs
  go_wp2_with fail
  refine (wordOf_any _ _ _ _ xs _ hs1 hn).mono ?_
  rintro e w2 ⟨rfl, rfl⟩
  generalize val xs = v at *
  go_wp2
  go_ret2
  exact ⟨rfl, hb⟩

set_option maxHeartbeats 1000000 in
theorem small_ok_neg (A : Option Addr) (n c : Nat) (xs : List Nat) (w : World) (h : Sl w w.heap.size A n c xs) (hv : vld true xs = true) (hn : n ≤ 2) (z : Int) (hz : val xs = z.natAbs) (h1 : -9223372036854775808 ≤ z) (h2 : z ≤ 9223372036854775807) (h3 : z ≤ 0) :
    Calls Try.prog 19 #[.agg #[.bool true, .slice A n c]] w fun e w' => e = .returned (.tuple #[.int .i64 z, .bool true]) ∧ Below w.heap.size w w' := by
  have d2 : decide (2 < (n : Int)) = false := by simp; omega
  have Hz := Lib.hid (show ((val xs : Nat) : Int) = -z by omega)
  clear hz
  go_enter Try.func19, Try.ntmps19
  go_wp2_with fail
  have hs := h.on (below_new w (.cells #[.bool true, .slice A n c] 24))
  have b0 := Bx.new w true A n c
  refine (valid_any _ _ _ _ _ xs _ hs (Nat.le_refl _)).mono ?_
  rintro e w1 ⟨rfl, hb1⟩
  have hb := below_chain (below_new w (.cells #[.bool true, .slice A n c] 24)) (by simp) hb1
  have hs1 := hs.on hb1
  have b1 := b0.below hb1 (by simp)
  have k0 := b1.c0
  have k1 := b1.c1
  clear hb1 b0 hs
  go_wp2_with fail
  refine (wordOf_any _ _ _ _ xs _ hs1 hn).mono ?_
  rintro e w2 ⟨rfl, rfl⟩
  rw [Hz.out]
  go_wp2
  rw [wrap64_u64 z h1 h2]
  go_ret2
  exact ⟨rfl, hb⟩

set_option maxHeartbeats 1000000 in
theorem small_ok_pos (A : Option Addr) (n c : Nat) (xs : List Nat) (w : World) (h : Sl w w.heap.size A n c xs) (hv : vld false xs = true) (hn : n ≤ 2) (z : Int) (hz : val xs = z.natAbs) (h1 : -9223372036854775808 ≤ z) (h2 : z ≤ 9223372036854775807) (h3 : 0 ≤ z) :
    Calls Try.prog 19 #[.agg #[.bool false, .slice A n c]] w fun e w' => e = .returned (.tuple #[.int .i64 z, .bool true]) ∧ Below w.heap.size w w' := by
  have d2 : decide (2 < (n : Int)) = false := by simp; omega
  have Hz := Lib.hid (show ((val xs : Nat) : Int) = z by omega)
  clear hz
  go_enter Try.func19, Try.ntmps19
  go_wp2_with fail
  have hs := h.on (below_new w (.cells #[.bool false, .slice A n c] 24))
  have b0 := Bx.new w false A n c
  refine (valid_any _ _ _ _ _ xs _ hs (Nat.le_refl _)).mono ?_
  rintro e w1 ⟨rfl, hb1⟩
  have hb := below_chain (below_new w (.cells #[.bool false, .slice A n c] 24)) (by simp) hb1
  have hs1 := hs.on hb1
  have b1 := b0.below hb1 (by simp)
  have k0 := b1.c0
  have k1 := b1.c1
  clear hb1 b0 hs
  go_wp2_with fail
  refine (wordOf_any _ _ _ _ xs _ hs1 hn).mono ?_
  rintro e w2 ⟨rfl, rfl⟩
  rw [Hz.out]
  go_wp2
  go_ret2
  exact ⟨rfl, hb⟩

theorem small_ov {neg : Bool} {A : Option Addr} {n c : Nat} {xs : List Nat} {w : World} (h : Sl w w.heap.size A n c xs) :
    Calls Try.prog 19 #[.agg #[.bool neg, .slice A n c]] w fun e w' => e = .returned (.tuple #[.int .i64 (smZ (ov neg xs)), .bool (smB (ov neg xs))]) ∧ Below w.heap.size w w' := by
  rcases hv : vld neg xs with _ | _
  · rw [ov_none hv]
    exact small_bad neg A n c xs w h hv
  · rw [ov_some hv]
    by_cases hr : -9223372036854775808 ≤ sg neg (val xs) ∧ sg neg (val xs) ≤ 9223372036854775807
    · have hb : smB (some (sg neg (val xs))) = true := decide_eq_true hr
      rw [smZ, hb, if_pos rfl, Option.getD_some]
      have hlen : n ≤ 2 := by
        have := length_le (vld_true hv).2.1 (n := 2) (by have e := sg_abs neg (val xs); rw [show (4294967296 : Nat) ^ 2 = 18446744073709551616 by decide]; omega)
        rw [h.len] at this
        exact this
      cases neg
      · exact small_ok_pos A n c xs w h hv hlen _ (sg_abs _ _).symm hr.1 hr.2 (by rw [sg_false]; omega)
      · exact small_ok_neg A n c xs w h hv hlen _ (sg_abs _ _).symm hr.1 hr.2 (by rw [sg_true]; omega)
    · have hb : smB (some (sg neg (val xs))) = false := decide_eq_false hr
      rw [smZ, hb, if_neg (by decide)]
      by_cases hn : 2 < n
      · exact small_long neg A n c xs w h hv hn
      · cases neg
        · exact small_pos A n c xs w h hv (by omega) (by rw [sg_false] at hr; omega)
        · exact small_neg A n c xs w h hv (by omega) (by rw [sg_true] at hr; omega)

set_option maxHeartbeats 1000000 in
theorem rsmall_bad (neg : Bool) (A : Option Addr) (n c : Nat) (xs : List Nat) (w : World) (h : Sl w w.heap.size A n c xs) (hv : vld neg xs = false) :
    Calls Try.prog 43 #[.agg #[.bool neg, .slice A n c]] w fun e w' => e = .returned (.tuple #[.int .i64 0, .bool false]) ∧ Below w.heap.size w w' := by
  go_enter Try.func43, Try.ntmps43
  go_wp2_with fail
  have hs := h.on (below_new w (.cells #[.bool neg, .slice A n c] 24))
  have b0 := Bx.new w neg A n c
  refine (rvalid_any _ _ _ _ _ xs _ hs (Nat.le_refl _)).mono ?_
  rintro e w1 ⟨rfl, hb1⟩
  have hb := below_chain (below_new w (.cells #[.bool neg, .slice A n c] 24)) (by simp) hb1
  have hs1 := hs.on hb1
  have b1 := b0.below hb1 (by simp)
  have k0 := b1.c0
  have k1 := b1.c1
  clear hb1 b0 hs
  go_wp2
  go_ret2
  exact ⟨rfl, hb⟩

set_option maxHeartbeats 1000000 in
theorem rsmall_long (neg : Bool) (A : Option Addr) (n c : Nat) (xs : List Nat) (w : World) (h : Sl w w.heap.size A n c xs) (hv : vld neg xs = true) (hn : 2 < n) :
    Calls Try.prog 43 #[.agg #[.bool neg, .slice A n c]] w fun e w' => e = .returned (.tuple #[.int .i64 0, .bool false]) ∧ Below w.heap.size w w' := by
  have d2 : decide (2 < (n : Int)) = true := by simp; omega
  go_enter Try.func43, Try.ntmps43
  go_wp2_with fail
  have hs := h.on (below_new w (.cells #[.bool neg, .slice A n c] 24))
  have b0 := Bx.new w neg A n c
  refine (rvalid_any _ _ _ _ _ xs _ hs (Nat.le_refl _)).mono ?_
  rintro e w1 ⟨rfl, hb1⟩
  have hb := below_chain (below_new w (.cells #[.bool neg, .slice A n c] 24)) (by simp) hb1
  have hs1 := hs.on hb1
  have b1 := b0.below hb1 (by simp)
  have k0 := b1.c0
  have k1 := b1.c1
  clear hb1 b0 hs
  go_wp2
  go_ret2
  exact ⟨rfl, hb⟩

set_option maxHeartbeats 1000000 in
theorem rsmall_neg (A : Option Addr) (n c : Nat) (xs : List Nat) (w : World) (h : Sl w w.heap.size A n c xs) (hv : vld true xs = true) (hn : n ≤ 2) (h1 : (9223372036854775808 : Int) < (val xs : Int)) :
    Calls Try.prog 43 #[.agg #[.bool true, .slice A n c]] w fun e w' => e = .returned (.tuple #[.int .i64 0, .bool false]) ∧ Below w.heap.size w w' := by
  have d2 : decide (2 < (n : Int)) = false := by simp; omega
  have hlt : val xs < 18446744073709551616 := by
    have a := val_lt h.ok
    rw [h.len] at a
    exact Nat.lt_of_lt_of_le a (show 4294967296 ^ n ≤ 4294967296 ^ 2 from Nat.pow_le_pow_right (by decide) hn)
  go_enter Try.func43, Try.ntmps43
  go_wp2_with fail
  have hs := h.on (below_new w (.cells #[.bool true, .slice A n c] 24))
  have b0 := Bx.new w true A n c
  refine (rvalid_any _ _ _ _ _ xs _ hs (Nat.le_refl _)).mono ?_
  rintro e w1 ⟨rfl, hb1⟩
  have hb := below_chain (below_new w (.cells #[.bool true, .slice A n c] 24)) (by simp) hb1
  have hs1 := hs.on hb1
  have b1 := b0.below hb1 (by simp)
  have k0 := b1.c0
  have k1 := b1.c1
  clear hb1 b0 hs
  have hcap := hs1.cap
  have hreach := hs1.reach
  have hcr := hs1.capr
  have Hlen := Lib.hid hs1.len
  have Hn2 := Lib.hid hn
  go_wp2
  go_loop [4, 5] (fun v i => ∃ j : Nat, j ≤ n ∧ i = .int .i64 ((j : Int) - 1) ∧ v = .int .u64 (val (xs.drop j) : Nat)) (fun _ i => (intOf i + 1).toNat)
  case atStart => exact ⟨n, Nat.le_refl _, rfl, by rw [List.drop_of_length_le (by rw [Hlen.out]; exact Nat.le_refl _)]; rfl⟩
  case round =>
    obtain ⟨j, hj, rfl, rfl⟩ := hrel
    by_cases hj0 : 0 < j
    · obtain ⟨i, rfl⟩ : ∃ i, j = i + 1 := ⟨j - 1, by omega⟩
      have hx := hs1.ok.lim i
      have Hd := Lib.hid (val_drop xs i (by rw [Hlen.out]; omega))
      have hlt := drop_lt (j := i + 1) hs1.ok Hlen.out hn (by omega)
      obtain ⟨ad, rfl, _, hc1⟩ := hs1.cell (k := i) (by omega)
      have e1 : ((i + 1 : Nat) : Int) - 1 = (i : Int) := by omega
      generalize val (xs.drop (i + 1)) = v at *
      rw [e1]
      go_wp2
      rw [show (v : Int) * 4294967296 + (lim xs i : Int) = ((lim xs i + 4294967296 * v : Nat) : Int) by omega]
      exact ⟨⟨i, by omega, by go_num, by rw [Hd.out]⟩, by simp [intOf]⟩
    · obtain rfl : j = 0 := by omega
      rw [List.drop_zero]
      generalize val xs = v at *
      go_wp2
      go_ret2
      exact ⟨rfl, hb⟩

set_option maxHeartbeats 1000000 in
theorem rsmall_pos (A : Option Addr) (n c : Nat) (xs : List Nat) (w : World) (h : Sl w w.heap.size A n c xs) (hv : vld false xs = true) (hn : n ≤ 2) (h1 : (9223372036854775808 : Int) ≤ (val xs : Int)) :
    Calls Try.prog 43 #[.agg #[.bool false, .slice A n c]] w fun e w' => e = .returned (.tuple #[.int .i64 0, .bool false]) ∧ Below w.heap.size w w' := by
  have d2 : decide (2 < (n : Int)) = false := by simp; omega
  have hlt : val xs < 18446744073709551616 := by
    have a := val_lt h.ok
    rw [h.len] at a
    exact Nat.lt_of_lt_of_le a (show 4294967296 ^ n ≤ 4294967296 ^ 2 from Nat.pow_le_pow_right (by decide) hn)
  go_enter Try.func43, Try.ntmps43
  go_wp2_with fail
  have hs := h.on (below_new w (.cells #[.bool false, .slice A n c] 24))
  have b0 := Bx.new w false A n c
  refine (rvalid_any _ _ _ _ _ xs _ hs (Nat.le_refl _)).mono ?_
  rintro e w1 ⟨rfl, hb1⟩
  have hb := below_chain (below_new w (.cells #[.bool false, .slice A n c] 24)) (by simp) hb1
  have hs1 := hs.on hb1
  have b1 := b0.below hb1 (by simp)
  have k0 := b1.c0
  have k1 := b1.c1
  clear hb1 b0 hs
  have hcap := hs1.cap
  have hreach := hs1.reach
  have hcr := hs1.capr
  have Hlen := Lib.hid hs1.len
  have Hn2 := Lib.hid hn
  go_wp2
  go_loop [4, 5] (fun v i => ∃ j : Nat, j ≤ n ∧ i = .int .i64 ((j : Int) - 1) ∧ v = .int .u64 (val (xs.drop j) : Nat)) (fun _ i => (intOf i + 1).toNat)
  case atStart => exact ⟨n, Nat.le_refl _, rfl, by rw [List.drop_of_length_le (by rw [Hlen.out]; exact Nat.le_refl _)]; rfl⟩
  case round =>
    obtain ⟨j, hj, rfl, rfl⟩ := hrel
    by_cases hj0 : 0 < j
    · obtain ⟨i, rfl⟩ : ∃ i, j = i + 1 := ⟨j - 1, by omega⟩
      have hx := hs1.ok.lim i
      have Hd := Lib.hid (val_drop xs i (by rw [Hlen.out]; omega))
      have hlt := drop_lt (j := i + 1) hs1.ok Hlen.out hn (by omega)
      obtain ⟨ad, rfl, _, hc1⟩ := hs1.cell (k := i) (by omega)
      have e1 : ((i + 1 : Nat) : Int) - 1 = (i : Int) := by omega
      generalize val (xs.drop (i + 1)) = v at *
      rw [e1]
      go_wp2
      rw [show (v : Int) * 4294967296 + (lim xs i : Int) = ((lim xs i + 4294967296 * v : Nat) : Int) by omega]
      exact ⟨⟨i, by omega, by go_num, by rw [Hd.out]⟩, by simp [intOf]⟩
    · obtain rfl : j = 0 := by omega
      rw [List.drop_zero]
      generalize val xs = v at *
      have d3 : decide ((v : Int) < 9223372036854775808) = false := decide_eq_false (by omega)
      have hv0 : (0 : Int) ≤ (v : Int) := by omega
      clear hlt
      go_wp2
      go_ret2
      exact ⟨rfl, hb⟩

set_option maxHeartbeats 1000000 in
theorem rsmall_ok_neg (A : Option Addr) (n c : Nat) (xs : List Nat) (w : World) (h : Sl w w.heap.size A n c xs) (hv : vld true xs = true) (hn : n ≤ 2) (z : Int) (hz : val xs = z.natAbs) (h1 : -9223372036854775808 ≤ z) (h2 : z ≤ 9223372036854775807) (h3 : z ≤ 0) :
    Calls Try.prog 43 #[.agg #[.bool true, .slice A n c]] w fun e w' => e = .returned (.tuple #[.int .i64 z, .bool true]) ∧ Below w.heap.size w w' := by
  have d2 : decide (2 < (n : Int)) = false := by simp; omega
  have Hz := Lib.hid (show ((val xs : Nat) : Int) = -z by omega)
  clear hz
  go_enter Try.func43, Try.ntmps43
  go_wp2_with fail
  have hs := h.on (below_new w (.cells #[.bool true, .slice A n c] 24))
  have b0 := Bx.new w true A n c
  refine (rvalid_any _ _ _ _ _ xs _ hs (Nat.le_refl _)).mono ?_
  rintro e w1 ⟨rfl, hb1⟩
  have hb := below_chain (below_new w (.cells #[.bool true, .slice A n c] 24)) (by simp) hb1
  have hs1 := hs.on hb1
  have b1 := b0.below hb1 (by simp)
  have k0 := b1.c0
  have k1 := b1.c1
  clear hb1 b0 hs
  have hcap := hs1.cap
  have hreach := hs1.reach
  have hcr := hs1.capr
  have Hlen := Lib.hid hs1.len
  have Hn2 := Lib.hid hn
  go_wp2
  go_loop [4, 5] (fun v i => ∃ j : Nat, j ≤ n ∧ i = .int .i64 ((j : Int) - 1) ∧ v = .int .u64 (val (xs.drop j) : Nat)) (fun _ i => (intOf i + 1).toNat)
  case atStart => exact ⟨n, Nat.le_refl _, rfl, by rw [List.drop_of_length_le (by rw [Hlen.out]; exact Nat.le_refl _)]; rfl⟩
  case round =>
    obtain ⟨j, hj, rfl, rfl⟩ := hrel
    by_cases hj0 : 0 < j
    · obtain ⟨i, rfl⟩ : ∃ i, j = i + 1 := ⟨j - 1, by omega⟩
      have hx := hs1.ok.lim i
      have Hd := Lib.hid (val_drop xs i (by rw [Hlen.out]; omega))
      have hlt := drop_lt (j := i + 1) hs1.ok Hlen.out hn (by omega)
      obtain ⟨ad, rfl, _, hc1⟩ := hs1.cell (k := i) (by omega)
      have e1 : ((i + 1 : Nat) : Int) - 1 = (i : Int) := by omega
      generalize val (xs.drop (i + 1)) = v at *
      rw [e1]
      go_wp2
      rw [show (v : Int) * 4294967296 + (lim xs i : Int) = ((lim xs i + 4294967296 * v : Nat) : Int) by omega]
      exact ⟨⟨i, by omega, by go_num, by rw [Hd.out]⟩, by simp [intOf]⟩
    · obtain rfl : j = 0 := by omega
      rw [List.drop_zero]
      rw [Hz.out]
      go_wp2
      rw [wrap64_u64 z h1 h2]
      go_ret2
      exact ⟨rfl, hb⟩

set_option maxHeartbeats 1000000 in
theorem rsmall_ok_pos (A : Option Addr) (n c : Nat) (xs : List Nat) (w : World) (h : Sl w w.heap.size A n c xs) (hv : vld false xs = true) (hn : n ≤ 2) (z : Int) (hz : val xs = z.natAbs) (h1 : -9223372036854775808 ≤ z) (h2 : z ≤ 9223372036854775807) (h3 : 0 ≤ z) :
    Calls Try.prog 43 #[.agg #[.bool false, .slice A n c]] w fun e w' => e = .returned (.tuple #[.int .i64 z, .bool true]) ∧ Below w.heap.size w w' := by
  have d2 : decide (2 < (n : Int)) = false := by simp; omega
  have Hz := Lib.hid (show ((val xs : Nat) : Int) = z by omega)
  clear hz
  go_enter Try.func43, Try.ntmps43
  go_wp2_with fail
  have hs := h.on (below_new w (.cells #[.bool false, .slice A n c] 24))
  have b0 := Bx.new w false A n c
  refine (rvalid_any _ _ _ _ _ xs _ hs (Nat.le_refl _)).mono ?_
  rintro e w1 ⟨rfl, hb1⟩
  have hb := below_chain (below_new w (.cells #[.bool false, .slice A n c] 24)) (by simp) hb1
  have hs1 := hs.on hb1
  have b1 := b0.below hb1 (by simp)
  have k0 := b1.c0
  have k1 := b1.c1
  clear hb1 b0 hs
  have hcap := hs1.cap
  have hreach := hs1.reach
  have hcr := hs1.capr
  have Hlen := Lib.hid hs1.len
  have Hn2 := Lib.hid hn
  go_wp2
  go_loop [4, 5] (fun v i => ∃ j : Nat, j ≤ n ∧ i = .int .i64 ((j : Int) - 1) ∧ v = .int .u64 (val (xs.drop j) : Nat)) (fun _ i => (intOf i + 1).toNat)
  case atStart => exact ⟨n, Nat.le_refl _, rfl, by rw [List.drop_of_length_le (by rw [Hlen.out]; exact Nat.le_refl _)]; rfl⟩
  case round =>
    obtain ⟨j, hj, rfl, rfl⟩ := hrel
    by_cases hj0 : 0 < j
    · obtain ⟨i, rfl⟩ : ∃ i, j = i + 1 := ⟨j - 1, by omega⟩
      have hx := hs1.ok.lim i
      have Hd := Lib.hid (val_drop xs i (by rw [Hlen.out]; omega))
      have hlt := drop_lt (j := i + 1) hs1.ok Hlen.out hn (by omega)
      obtain ⟨ad, rfl, _, hc1⟩ := hs1.cell (k := i) (by omega)
      have e1 : ((i + 1 : Nat) : Int) - 1 = (i : Int) := by omega
      generalize val (xs.drop (i + 1)) = v at *
      rw [e1]
      go_wp2
      rw [show (v : Int) * 4294967296 + (lim xs i : Int) = ((lim xs i + 4294967296 * v : Nat) : Int) by omega]
      exact ⟨⟨i, by omega, by go_num, by rw [Hd.out]⟩, by simp [intOf]⟩
    · obtain rfl : j = 0 := by omega
      rw [List.drop_zero]
      rw [Hz.out]
      go_wp2
      go_ret2
      exact ⟨rfl, hb⟩

theorem rsmall_ov {neg : Bool} {A : Option Addr} {n c : Nat} {xs : List Nat} {w : World} (h : Sl w w.heap.size A n c xs) :
    Calls Try.prog 43 #[.agg #[.bool neg, .slice A n c]] w fun e w' => e = .returned (.tuple #[.int .i64 (smZ (ov neg xs)), .bool (smB (ov neg xs))]) ∧ Below w.heap.size w w' := by
  rcases hv : vld neg xs with _ | _
  · rw [ov_none hv]
    exact rsmall_bad neg A n c xs w h hv
  · rw [ov_some hv]
    by_cases hr : -9223372036854775808 ≤ sg neg (val xs) ∧ sg neg (val xs) ≤ 9223372036854775807
    · have hb : smB (some (sg neg (val xs))) = true := decide_eq_true hr
      rw [smZ, hb, if_pos rfl, Option.getD_some]
      have hlen : n ≤ 2 := by
        have := length_le (vld_true hv).2.1 (n := 2) (by have e := sg_abs neg (val xs); rw [show (4294967296 : Nat) ^ 2 = 18446744073709551616 by decide]; omega)
        rw [h.len] at this
        exact this
      cases neg
      · exact rsmall_ok_pos A n c xs w h hv hlen _ (sg_abs _ _).symm hr.1 hr.2 (by rw [sg_false]; omega)
      · exact rsmall_ok_neg A n c xs w h hv hlen _ (sg_abs _ _).symm hr.1 hr.2 (by rw [sg_true]; omega)
    · have hb : smB (some (sg neg (val xs))) = false := decide_eq_false hr
      rw [smZ, hb, if_neg (by decide)]
      by_cases hn : 2 < n
      · exact rsmall_long neg A n c xs w h hv hn
      · cases neg
        · exact rsmall_pos A n c xs w h hv (by omega) (by rw [sg_false] at hr; omega)
        · exact rsmall_neg A n c xs w h hv (by omega) (by rw [sg_true] at hr; omega)

end Go.Proofs.Ytalgcppogjpilaa

namespace Go.Proofs.Ytalgcppogjpilaa
open Go.RowKit

set_option maxRecDepth 20000 in
set_option maxHeartbeats 4000000 in
theorem shifts_walk (neg : Bool) (A : Option Addr) (n c : Nat) (xs : List Nat) (w : World) (h : Sl w w.heap.size A n c xs) (s : Int) (hs1 : -9223372036854775808 ≤ s) (hs2 : s ≤ 9223372036854775807) (z1 e1 bz be sz : Int) (sb : Bool)
    (Z1 : Hid (oZ (shf · s) (ov neg xs) = z1)) (E1 : Hid (oE (shf · s) (ov neg xs) = e1))
    (BZ : Hid (btZ (ov neg xs) = bz)) (BE : Hid (btE (ov neg xs) = be)) (SZ : Hid (smZ (ov neg xs) = sz)) (SB : Hid (smB (ov neg xs) = sb)) :
    Calls Try.prog 9 #[.agg #[.bool neg, .slice A n c], .int .i64 s] w (fun e w' => e = .returned (.bool true) ∧ Below w.heap.size w w') := by
  go_enter Try.func9, Try.ntmps9
  go_wp2_with fail
  generalize hW : World.alloc w _ = V
  obtain ⟨hb, a⟩ := lone_box neg A n c xs w V h hW
  have HB := Lib.hid hb
  clear hW hb h
  generalize hr0 : w.heap.size = r0 at *
  have HR := Lib.hid hr0
  clear hr0
  have ka0 := a.bx.c0
  have ka1 := a.bx.c1
  have la := a.bx.lt
  go_wp2_with fail
  clear ka0 ka1 la
  have C := shift_ov (neg := neg) a.sl s hs1 hs2
  rw [Z1.out, E1.out] at C
  refine C.mono ?_
  clear C
  rintro e w1 ⟨A1, n1, c1, xs1, rfl, hs1, hx1, hv1, hbn⟩
  replace a := a.on hbn
  replace HB := Lib.hid (show Below r0 w w1 from below_chain HB.out (by have := HR.out; have := HB.out.size; omega) hbn)
  clear hbn
  have F1 := Lib.hid (And.intro hx1 hv1)
  clear hx1 hv1
  have ka0 := a.bx.c0
  have ka1 := a.bx.c1
  have la := a.bx.lt
  go_wp2_with fail
  clear ka0 ka1 la
  generalize hW : World.alloc w1 _ = V1
  have x : Ba V1 w1.heap.size (decide (z1 < 0)) A1 n1 c1 xs1 := by rw [← hW]; exact ⟨Bx.new _ _ _ _ _, hs1.on (below_new _ _)⟩
  replace a : Ba V1 (r0) (neg) A n c xs := by rw [← hW]; exact a.on (below_new _ _)
  replace HB := Lib.hid (show Below r0 w V1 by rw [← hW]; exact HB.out.alloc (by have := HR.out; have := HB.out.size; omega) _)
  clear hW hs1
  generalize w1.heap.size = r1 at *
  have C := rshift_ov (neg := neg) a.sl s hs1 hs2
  rw [Z1.out, E1.out] at C
  refine C.mono ?_
  clear C
  rintro e w2 ⟨A2, n2, c2, xs2, rfl, hs2, hx2, hv2, hbn⟩
  replace a := a.on hbn
  replace x := x.on hbn
  replace HB := Lib.hid (show Below r0 w w2 from below_chain HB.out (by have := HR.out; have := HB.out.size; omega) hbn)
  clear hbn
  have F2 := Lib.hid (And.intro hx2 hv2)
  clear hx2 hv2
  have ka0 := a.bx.c0
  have ka1 := a.bx.c1
  have la := a.bx.lt
  go_wp2_with fail
  clear ka0 ka1 la
  generalize hW : World.alloc w2 _ = V2
  have y : Ba V2 w2.heap.size (decide (z1 < 0)) A2 n2 c2 xs2 := by rw [← hW]; exact ⟨Bx.new _ _ _ _ _, hs2.on (below_new _ _)⟩
  replace a : Ba V2 (r0) (neg) A n c xs := by rw [← hW]; exact a.on (below_new _ _)
  replace x : Ba V2 (r1) (decide (z1 < 0)) A1 n1 c1 xs1 := by rw [← hW]; exact x.on (below_new _ _)
  replace HB := Lib.hid (show Below r0 w V2 by rw [← hW]; exact HB.out.alloc (by have := HR.out; have := HB.out.size; omega) _)
  clear hW hs2
  generalize w2.heap.size = r2 at *
  have C := bits_ov (neg := neg) a.sl
  rw [BZ.out, BE.out] at C
  refine C.mono ?_
  clear C
  rintro e w3 ⟨rfl, hbn⟩
  replace a := a.on hbn
  replace x := x.on hbn
  replace y := y.on hbn
  replace HB := Lib.hid (show Below r0 w w3 from below_chain HB.out (by have := HR.out; have := HB.out.size; omega) hbn)
  clear hbn
  have ka0 := a.bx.c0
  have ka1 := a.bx.c1
  have la := a.bx.lt
  go_wp2_with fail
  clear ka0 ka1 la
  have C := rbits_ov (neg := neg) a.sl
  rw [BZ.out, BE.out] at C
  refine C.mono ?_
  clear C
  rintro e w4 ⟨rfl, hbn⟩
  replace a := a.on hbn
  replace x := x.on hbn
  replace y := y.on hbn
  replace HB := Lib.hid (show Below r0 w w4 from below_chain HB.out (by have := HR.out; have := HB.out.size; omega) hbn)
  clear hbn
  have ka0 := a.bx.c0
  have ka1 := a.bx.c1
  have la := a.bx.lt
  go_wp2_with fail
  clear ka0 ka1 la
  have C := small_ov (neg := neg) a.sl
  rw [SZ.out, SB.out] at C
  refine C.mono ?_
  clear C
  rintro e w5 ⟨rfl, hbn⟩
  replace a := a.on hbn
  replace x := x.on hbn
  replace y := y.on hbn
  replace HB := Lib.hid (show Below r0 w w5 from below_chain HB.out (by have := HR.out; have := HB.out.size; omega) hbn)
  clear hbn
  have ka0 := a.bx.c0
  have ka1 := a.bx.c1
  have la := a.bx.lt
  go_wp2_with fail
  clear ka0 ka1 la
  have C := rsmall_ov (neg := neg) a.sl
  rw [SZ.out, SB.out] at C
  refine C.mono ?_
  clear C
  rintro e w6 ⟨rfl, hbn⟩
  replace a := a.on hbn
  replace x := x.on hbn
  replace y := y.on hbn
  replace HB := Lib.hid (show Below r0 w w6 from below_chain HB.out (by have := HR.out; have := HB.out.size; omega) hbn)
  clear hbn
  go_wp2_with fail
  refine (works_any _).mono ?_
  rintro e w7 ⟨rfl, hbn⟩
  replace a := a.on hbn
  replace x := x.on hbn
  replace y := y.on hbn
  replace HB := Lib.hid (show Below r0 w w7 from below_chain HB.out (by have := HR.out; have := HB.out.size; omega) hbn)
  clear hbn
  have kx0 := x.bx.c0
  have kx1 := x.bx.c1
  have ky0 := y.bx.c0
  have ky1 := y.bx.c1
  have lx := x.bx.lt
  have ly := y.bx.lt
  go_wp2_with fail
  clear kx0 kx1 lx ky0 ky1 ly
  refine (lsame_yes _ _ _ _ _ _ _ _ _ _ _ x.sl y.sl rfl (uniq x.sl.ok y.sl.ok F1.out.1 F2.out.1 (F1.out.2.trans F2.out.2.symm))).mono ?_
  rintro e w8 ⟨rfl, hbn⟩
  replace a := a.on hbn
  replace x := x.on hbn
  replace y := y.on hbn
  replace HB := Lib.hid (show Below r0 w w8 from below_chain HB.out (by have := HR.out; have := HB.out.size; omega) hbn)
  clear hbn
  go_wp2
  go_ret
  exact ⟨rfl, HR.out ▸ HB.out⟩


theorem integerShifts_any (neg : Bool) (A : Option Addr) (n c : Nat) (xs : List Nat) (s : Int) (w : World) (h : Sl w w.heap.size A n c xs) (h1 : -9223372036854775808 ≤ s) (h2 : s ≤ 9223372036854775807) :
    Calls Try.prog 9 #[.agg #[.bool neg, .slice A n c], .int .i64 s] w fun e w' => e = .returned (.bool true) ∧ Below w.heap.size w w' :=
  shifts_walk neg A n c xs w h s h1 h2 _ _ _ _ _ _ (Lib.hid rfl) (Lib.hid rfl) (Lib.hid rfl) (Lib.hid rfl) (Lib.hid rfl) (Lib.hid rfl)

end Go.Proofs.Ytalgcppogjpilaa
