/-
  The walk of Shift to the right.
-/
import Derived.Test.YtalgcppogjpilaaShr
import Derived.Test.YtalgcppogjpilaaAddSub
namespace Go.Proofs.Ytalgcppogjpilaa
open Go.RowKit

theorem one_boxes (neg : Bool) (A : Option Addr) (n c : Nat) (w W : World)
    (hW : (w.alloc (.cells #[.bool neg, .slice A n c] 24)).alloc (.cells #[.bool false, .slice none 0 0] 24) = W) :
    Below w.heap.size w W ∧ w.heap.size + 1 < W.heap.size ∧ Bx W w.heap.size neg A n c ∧ Bx W (w.heap.size + 1) false none 0 0 := by
  subst hW
  refine ⟨((Below.refl _ _).alloc (Nat.le_refl _) _).alloc (by simp) _, by simp, (Bx.new w _ _ _ _).alloc _, ?_⟩
  have := Bx.new (w.alloc (.cells #[.bool neg, .slice A n c] 24)) false none 0 0
  simpa using this

/-- A power of two that is not reckoned out. -/
def pw (k : Nat) : Nat := 2 ^ k
theorem shiftRight_pw (A : Option Addr) (n c s l t : Nat) (xs : List Nat) (w : World) (h : Sl w w.heap.size A n c xs) (hs : s ≤ 1000000) (hl : (s : Int) / 32 = (l : Int)) (ht : (s : Int) % 32 = (t : Int)) :
    Calls Try.prog 78 #[.slice A n c, .int .i64 (s : Int)] w (RetNum (val xs / pw s) w) := shiftRight_any A n c s l t xs w h hs hl ht

/-- By how much a shift by a negative number goes to the right. -/
def down (s : Int) : Nat := if s < -4096 then 4096 else (-s).toNat

set_option maxHeartbeats 1000000 in
theorem shift_bad (neg : Bool) (A : Option Addr) (n c : Nat) (xs : List Nat) (s : Int) (w : World) (h : Sl w w.heap.size A n c xs) (hv : vld neg xs = false) :
    Calls Try.prog 39 #[.agg #[.bool neg, .slice A n c], .int .i64 s] w (RetIE 0 1 w) := by
  go_enter Try.func39, Try.ntmps39
  go_wp2_with fail
  generalize hW : World.alloc (World.alloc w _) _ = W
  obtain ⟨hb, hz, b0, b1⟩ := one_boxes neg A n c w W hW
  have hs := h.on hb
  clear hW
  refine (valid_any _ _ _ _ _ xs _ hs (Nat.le_refl _)).mono ?_
  rintro e w1 ⟨rfl, hb1⟩
  have hz1 : w.heap.size + 1 < w1.heap.size := by have := hb1.size; omega
  have b0 := b0.below hb1 (by omega)
  have b1 := b1.below hb1 (by omega)
  have hs := hs.on hb1
  have hb := below_chain hb (by omega) hb1
  clear hb1
  have k0 := b0.c0
  have k1 := b0.c1
  have k3 := b1.c0
  have k4 := b1.c1
  have k5 := b1.f 0
  have k6 := b1.f 1
  generalize hr : w.heap.size = r at *
  have HRW := Lib.hid (And.intro hb hr)
  clear hb hr
  go_wp2
  exact bodyPost_ret (v := .tuple #[.agg #[.bool false, .slice none 0 0], .int .i64 1]) (by simp [results, Try.results39, go_sem, k3, k4]) rfl
    ⟨none, 0, 0, [], rfl, Sl.nil _ _, Nz.nil, rfl, by rw [HRW.out.2]; exact below_ret HRW.out.1 (show r ≤ r + 1 by omega) _ _⟩

set_option maxHeartbeats 1000000 in
theorem shift_nil (neg : Bool) (A : Option Addr) (n c : Nat) (xs : List Nat) (s : Int) (w : World) (h : Sl w w.heap.size A n c xs) (hv : vld neg xs = true) (h0 : xs = []) :
    Calls Try.prog 39 #[.agg #[.bool neg, .slice A n c], .int .i64 s] w (RetIE 0 0 w) := by
  obtain rfl : n = 0 := by have := h.len; rw [h0] at this; simpa using this.symm
  clear h0
  go_enter Try.func39, Try.ntmps39
  go_wp2_with fail
  generalize hW : World.alloc (World.alloc w _) _ = W
  obtain ⟨hb, hz, b0, b1⟩ := one_boxes neg A 0 c w W hW
  have hs := h.on hb
  clear hW
  refine (valid_any _ _ _ _ _ xs _ hs (Nat.le_refl _)).mono ?_
  rintro e w1 ⟨rfl, hb1⟩
  have hz1 : w.heap.size + 1 < w1.heap.size := by have := hb1.size; omega
  have b0 := b0.below hb1 (by omega)
  have b1 := b1.below hb1 (by omega)
  have hs := hs.on hb1
  have hb := below_chain hb (by omega) hb1
  clear hb1
  have k0 := b0.c0
  have k1 := b0.c1
  have k3 := b1.c0
  have k4 := b1.c1
  have k5 := b1.f 0
  have k6 := b1.f 1
  generalize hr : w.heap.size = r at *
  have HRW := Lib.hid (And.intro hb hr)
  clear hb hr
  go_wp2
  exact bodyPost_ret (v := .tuple #[.agg #[.bool false, .slice none 0 0], .int .i64 0]) (by simp [results, Try.results39, go_sem, k3, k4]) rfl
    ⟨none, 0, 0, [], rfl, Sl.nil _ _, Nz.nil, rfl, by rw [HRW.out.2]; exact below_ret HRW.out.1 (show r ≤ r + 1 by omega) _ _⟩

set_option maxHeartbeats 1000000 in
theorem shr_pos1 (A : Option Addr) (n c : Nat) (xs : List Nat) (s : Int) (w : World) (h : Sl w w.heap.size A n c xs) (hv : vld false xs = true) (h0 : xs ≠ []) (hs0 : s < -4096) (hs9 : -9223372036854775808 ≤ s) :
    Calls Try.prog 39 #[.agg #[.bool false, .slice A n c], .int .i64 s] w (RetIE (sg false (val xs / pw 4096 : Nat)) 0 w) := by
  have Hg := Lib.hid (vld_true hv)
  have hn0 : 0 < n := by
    have := h.len
    rcases Nat.eq_zero_or_pos n with e | e
    · rw [e] at this; exact absurd (List.eq_nil_of_length_eq_zero this) h0
    · exact e
  have Hpos := Lib.hid (val_pos Hg.out.2.1 h0)
  have Hlx := Lib.hid h.len
  clear h0
  have i4 : ((n : Int) == 0) = false := by rw [beq_eq_false_iff_ne]; omega
  go_enter Try.func39, Try.ntmps39
  go_wp2_with fail
  generalize hW : World.alloc (World.alloc w _) _ = W
  obtain ⟨hb, hz, b0, b1⟩ := one_boxes false A n c w W hW
  have hs := h.on hb
  clear hW
  refine (valid_any _ _ _ _ _ xs _ hs (Nat.le_refl _)).mono ?_
  rintro e w1 ⟨rfl, hb1⟩
  have hz1 : w.heap.size + 1 < w1.heap.size := by have := hb1.size; omega
  have b0 := b0.below hb1 (by omega)
  have b1 := b1.below hb1 (by omega)
  have hs := hs.on hb1
  have hb := below_chain hb (by omega) hb1
  clear hb1
  have k0 := b0.c0
  have k1 := b0.c1
  go_wp2_with fail
  refine (shiftRight_pw _ _ _ 4096 128 0 _ _ hs (by omega) (by decide) (by decide)).mono ?_
  rintro e w2 ⟨A2, n2, c2, xs2, rfl, hs2, hx2, hv2, hb2⟩
  have b0 := b0.below hb2 (by omega)
  have b1 := b1.below hb2 (by omega)
  have hz2 := b1.lt
  have H2 := Lib.hid hv2
  clear hv2 k0 k1
  go_wp2_with fail
  refine (signed_any false _ _ _ _ _ hs2 hx2).mono ?_
  rintro e w4 ⟨A4, n4, c4, xs4, rfl, hs4, hx4, hv4, hb4⟩
  have b1 := b1.below hb4 (by omega)
  have k3 := b1.c0
  have k4 := b1.c1
  have k5 := b1.f 0
  have k6 := b1.f 1
  have H4 := Lib.hid hv4
  clear hv4
  generalize hr : w.heap.size = r at *
  have HRW := Lib.hid (And.intro hb hr)
  clear hb hr
  go_wp2
  exact bodyPost_ret (v := .tuple #[.agg #[.bool (decide (sg false (val xs2) < 0)), .slice A4 n4 c4], .int .i64 0]) (by simp [results, Try.results39, go_sem, k3, k4]) rfl
    ⟨A4, n4, c4, xs4, by rw [H2.out], hs4.ret b1 _ _, hx4, by rw [H4.out, H2.out], by rw [HRW.out.2]; exact below_ret (below_chain (below_chain HRW.out.1 (by omega) hb2) (by omega) hb4) (show r ≤ r + 1 by omega) _ _⟩

set_option maxHeartbeats 1000000 in
theorem shr_pos2 (A : Option Addr) (n c : Nat) (xs : List Nat) (w : World) (h : Sl w w.heap.size A n c xs) (hv : vld false xs = true) (h0 : xs ≠ []) (d : Nat) (hd0 : 0 < d) (hd : d ≤ 4096) :
    Calls Try.prog 39 #[.agg #[.bool false, .slice A n c], .int .i64 (-(d : Int))] w (RetIE (sg false (val xs / pw d : Nat)) 0 w) := by
  have Hg := Lib.hid (vld_true hv)
  have hn0 : 0 < n := by
    have := h.len
    rcases Nat.eq_zero_or_pos n with e | e
    · rw [e] at this; exact absurd (List.eq_nil_of_length_eq_zero this) h0
    · exact e
  have Hpos := Lib.hid (val_pos Hg.out.2.1 h0)
  have Hlx := Lib.hid h.len
  clear h0
  have i4 : ((n : Int) == 0) = false := by rw [beq_eq_false_iff_ne]; omega
  go_enter Try.func39, Try.ntmps39
  go_wp2_with fail
  generalize hW : World.alloc (World.alloc w _) _ = W
  obtain ⟨hb, hz, b0, b1⟩ := one_boxes false A n c w W hW
  have hs := h.on hb
  clear hW
  refine (valid_any _ _ _ _ _ xs _ hs (Nat.le_refl _)).mono ?_
  rintro e w1 ⟨rfl, hb1⟩
  have hz1 : w.heap.size + 1 < w1.heap.size := by have := hb1.size; omega
  have b0 := b0.below hb1 (by omega)
  have b1 := b1.below hb1 (by omega)
  have hs := hs.on hb1
  have hb := below_chain hb (by omega) hb1
  clear hb1
  have k0 := b0.c0
  have k1 := b0.c1
  have hl : ((d : Nat) : Int) / 32 = ((d / 32 : Nat) : Int) := by omega
  have ht : ((d : Nat) : Int) % 32 = ((d % 32 : Nat) : Int) := by omega
  have Hlt := Lib.hid (And.intro hl ht)
  clear hl ht
  go_wp2_with fail
  refine (shiftRight_pw _ _ _ d (d / 32) (d % 32) _ _ hs (by omega) Hlt.out.1 Hlt.out.2).mono ?_
  rintro e w2 ⟨A2, n2, c2, xs2, rfl, hs2, hx2, hv2, hb2⟩
  have b0 := b0.below hb2 (by omega)
  have b1 := b1.below hb2 (by omega)
  have hz2 := b1.lt
  have H2 := Lib.hid hv2
  clear hv2 k0 k1
  go_wp2_with fail
  refine (signed_any false _ _ _ _ _ hs2 hx2).mono ?_
  rintro e w4 ⟨A4, n4, c4, xs4, rfl, hs4, hx4, hv4, hb4⟩
  have b1 := b1.below hb4 (by omega)
  have k3 := b1.c0
  have k4 := b1.c1
  have k5 := b1.f 0
  have k6 := b1.f 1
  have H4 := Lib.hid hv4
  clear hv4
  generalize hr : w.heap.size = r at *
  have HRW := Lib.hid (And.intro hb hr)
  clear hb hr
  go_wp2
  exact bodyPost_ret (v := .tuple #[.agg #[.bool (decide (sg false (val xs2) < 0)), .slice A4 n4 c4], .int .i64 0]) (by simp [results, Try.results39, go_sem, k3, k4]) rfl
    ⟨A4, n4, c4, xs4, by rw [H2.out], hs4.ret b1 _ _, hx4, by rw [H4.out, H2.out], by rw [HRW.out.2]; exact below_ret (below_chain (below_chain HRW.out.1 (by omega) hb2) (by omega) hb4) (show r ≤ r + 1 by omega) _ _⟩

set_option maxHeartbeats 1000000 in
theorem shr_neg1 (A : Option Addr) (n c : Nat) (xs : List Nat) (s : Int) (w : World) (h : Sl w w.heap.size A n c xs) (hv : vld true xs = true) (h0 : xs ≠ []) (hs0 : s < -4096) (hs9 : -9223372036854775808 ≤ s) :
    Calls Try.prog 39 #[.agg #[.bool true, .slice A n c], .int .i64 s] w (RetIE (sg true ((val xs - 1) / pw 4096 + 1 : Nat)) 0 w) := by
  have Hg := Lib.hid (vld_true hv)
  have hn0 : 0 < n := by
    have := h.len
    rcases Nat.eq_zero_or_pos n with e | e
    · rw [e] at this; exact absurd (List.eq_nil_of_length_eq_zero this) h0
    · exact e
  have Hpos := Lib.hid (val_pos Hg.out.2.1 h0)
  have Hlx := Lib.hid h.len
  clear h0
  have i4 : ((n : Int) == 0) = false := by rw [beq_eq_false_iff_ne]; omega
  go_enter Try.func39, Try.ntmps39
  go_wp2_with fail
  generalize hW : World.alloc (World.alloc w _) _ = W
  obtain ⟨hb, hz, b0, b1⟩ := one_boxes true A n c w W hW
  have hs := h.on hb
  clear hW
  refine (valid_any _ _ _ _ _ xs _ hs (Nat.le_refl _)).mono ?_
  rintro e w1 ⟨rfl, hb1⟩
  have hz1 : w.heap.size + 1 < w1.heap.size := by have := hb1.size; omega
  have b0 := b0.below hb1 (by omega)
  have b1 := b1.below hb1 (by omega)
  have hs := hs.on hb1
  have hb := below_chain hb (by omega) hb1
  clear hb1
  have k0 := b0.c0
  have k1 := b0.c1
  go_wp2_with fail
  refine (ofWord_any 1 _ (by omega) (by omega)).mono ?_
  rintro e w2 ⟨A2, n2, c2, xs2, rfl, hs2, hx2, hv2, hb2⟩
  have b0 := b0.below hb2 (by omega)
  have b1 := b1.below hb2 (by omega)
  have hz2 := b1.lt
  have hs := hs.on hb2
  have H2 := Lib.hid hv2
  have hn2 : n2 ≤ 1000000 := by
    have e1 := length_le hx2 (n := 1) (by rw [hv2]; decide)
    have e2 := hs2.len
    omega
  clear hv2 k0 k1
  have k0 := b0.c0
  have k1 := b0.c1
  go_wp2_with fail
  refine (subMag_any _ _ _ _ _ _ _ _ _ hs hs2 hx2 (by have := H2.out; have := Hpos.out; simp only [Int.toNat_one] at *; omega)).mono ?_
  rintro e w3 ⟨A3, n3, c3, xs3, rfl, hs3, hx3, hv3, hb3⟩
  have b0 := b0.below hb3 (by omega)
  have b1 := b1.below hb3 (by omega)
  have hz3 := b1.lt
  have hs2 := hs2.on hb3
  have H3 := Lib.hid hv3
  clear hv3 k0 k1
  go_wp2_with fail
  refine (shiftRight_pw _ _ _ 4096 128 0 _ _ hs3 (by omega) (by decide) (by decide)).mono ?_
  rintro e w5 ⟨A5, n5, c5, xs5, rfl, hs5, hx5, hv5, hb5⟩
  have b1 := b1.below hb5 (by omega)
  have hz5 := b1.lt
  have hs2 := hs2.on hb5
  have H5 := Lib.hid hv5
  have hn5 : n5 ≤ 1000000 := by
    have e1 : val xs5 < BIG := by
      rw [hv5, H3.out]
      exact Nat.lt_of_le_of_lt (Nat.div_le_self _ _) (Nat.lt_of_le_of_lt (Nat.sub_le _ _) ((big_iff h.ok Hg.out.2.1).2 Hg.out.1))
    have e2 := (big_iff hs5.ok hx5).1 e1
    have e3 := hs5.len
    omega
  clear hv5
  go_wp2_with fail
  refine (addMag_any _ _ _ _ _ _ _ _ _ hs5 hs2 hn5 hn2).mono ?_
  rintro e w6 ⟨A6, n6, c6, xs6, rfl, hs6, hx6, hv6, hb6⟩
  have b1 := b1.below hb6 (by omega)
  have hz6 := b1.lt
  have H6 := Lib.hid hv6
  clear hv6
  go_wp2_with fail
  refine (signed_any true _ _ _ _ _ hs6 hx6).mono ?_
  rintro e w4 ⟨A4, n4, c4, xs4, rfl, hs4, hx4, hv4, hb4⟩
  have b1 := b1.below hb4 (by omega)
  have k3 := b1.c0
  have k4 := b1.c1
  have k5 := b1.f 0
  have k6 := b1.f 1
  have H4 := Lib.hid hv4
  clear hv4
  generalize hr : w.heap.size = r at *
  have HRW := Lib.hid (And.intro hb hr)
  clear hb hr
  go_wp2
  exact bodyPost_ret (v := .tuple #[.agg #[.bool (decide (sg true (val xs6) < 0)), .slice A4 n4 c4], .int .i64 0]) (by simp [results, Try.results39, go_sem, k3, k4]) rfl
    ⟨A4, n4, c4, xs4, by rw [H6.out, H5.out, H3.out, H2.out]; rfl, hs4.ret b1 _ _, hx4, by rw [H4.out, H6.out, H5.out, H3.out, H2.out]; rfl, by rw [HRW.out.2]; exact below_ret (below_chain (below_chain (below_chain (below_chain (below_chain HRW.out.1 (by omega) hb2) (by omega) hb3) (by omega) hb5) (by omega) hb6) (by omega) hb4) (show r ≤ r + 1 by omega) _ _⟩

set_option maxHeartbeats 1000000 in
theorem shr_neg2 (A : Option Addr) (n c : Nat) (xs : List Nat) (w : World) (h : Sl w w.heap.size A n c xs) (hv : vld true xs = true) (h0 : xs ≠ []) (d : Nat) (hd0 : 0 < d) (hd : d ≤ 4096) :
    Calls Try.prog 39 #[.agg #[.bool true, .slice A n c], .int .i64 (-(d : Int))] w (RetIE (sg true ((val xs - 1) / pw d + 1 : Nat)) 0 w) := by
  have Hg := Lib.hid (vld_true hv)
  have hn0 : 0 < n := by
    have := h.len
    rcases Nat.eq_zero_or_pos n with e | e
    · rw [e] at this; exact absurd (List.eq_nil_of_length_eq_zero this) h0
    · exact e
  have Hpos := Lib.hid (val_pos Hg.out.2.1 h0)
  have Hlx := Lib.hid h.len
  clear h0
  have i4 : ((n : Int) == 0) = false := by rw [beq_eq_false_iff_ne]; omega
  go_enter Try.func39, Try.ntmps39
  go_wp2_with fail
  generalize hW : World.alloc (World.alloc w _) _ = W
  obtain ⟨hb, hz, b0, b1⟩ := one_boxes true A n c w W hW
  have hs := h.on hb
  clear hW
  refine (valid_any _ _ _ _ _ xs _ hs (Nat.le_refl _)).mono ?_
  rintro e w1 ⟨rfl, hb1⟩
  have hz1 : w.heap.size + 1 < w1.heap.size := by have := hb1.size; omega
  have b0 := b0.below hb1 (by omega)
  have b1 := b1.below hb1 (by omega)
  have hs := hs.on hb1
  have hb := below_chain hb (by omega) hb1
  clear hb1
  have k0 := b0.c0
  have k1 := b0.c1
  have hl : ((d : Nat) : Int) / 32 = ((d / 32 : Nat) : Int) := by omega
  have ht : ((d : Nat) : Int) % 32 = ((d % 32 : Nat) : Int) := by omega
  have Hlt := Lib.hid (And.intro hl ht)
  clear hl ht
  go_wp2_with fail
  refine (ofWord_any 1 _ (by omega) (by omega)).mono ?_
  rintro e w2 ⟨A2, n2, c2, xs2, rfl, hs2, hx2, hv2, hb2⟩
  have b0 := b0.below hb2 (by omega)
  have b1 := b1.below hb2 (by omega)
  have hz2 := b1.lt
  have hs := hs.on hb2
  have H2 := Lib.hid hv2
  have hn2 : n2 ≤ 1000000 := by
    have e1 := length_le hx2 (n := 1) (by rw [hv2]; decide)
    have e2 := hs2.len
    omega
  clear hv2 k0 k1
  have k0 := b0.c0
  have k1 := b0.c1
  go_wp2_with fail
  refine (subMag_any _ _ _ _ _ _ _ _ _ hs hs2 hx2 (by have := H2.out; have := Hpos.out; simp only [Int.toNat_one] at *; omega)).mono ?_
  rintro e w3 ⟨A3, n3, c3, xs3, rfl, hs3, hx3, hv3, hb3⟩
  have b0 := b0.below hb3 (by omega)
  have b1 := b1.below hb3 (by omega)
  have hz3 := b1.lt
  have hs2 := hs2.on hb3
  have H3 := Lib.hid hv3
  clear hv3 k0 k1
  go_wp2_with fail
  refine (shiftRight_pw _ _ _ d (d / 32) (d % 32) _ _ hs3 (by omega) Hlt.out.1 Hlt.out.2).mono ?_
  rintro e w5 ⟨A5, n5, c5, xs5, rfl, hs5, hx5, hv5, hb5⟩
  have b1 := b1.below hb5 (by omega)
  have hz5 := b1.lt
  have hs2 := hs2.on hb5
  have H5 := Lib.hid hv5
  have hn5 : n5 ≤ 1000000 := by
    have e1 : val xs5 < BIG := by
      rw [hv5, H3.out]
      exact Nat.lt_of_le_of_lt (Nat.div_le_self _ _) (Nat.lt_of_le_of_lt (Nat.sub_le _ _) ((big_iff h.ok Hg.out.2.1).2 Hg.out.1))
    have e2 := (big_iff hs5.ok hx5).1 e1
    have e3 := hs5.len
    omega
  clear hv5
  go_wp2_with fail
  refine (addMag_any _ _ _ _ _ _ _ _ _ hs5 hs2 hn5 hn2).mono ?_
  rintro e w6 ⟨A6, n6, c6, xs6, rfl, hs6, hx6, hv6, hb6⟩
  have b1 := b1.below hb6 (by omega)
  have hz6 := b1.lt
  have H6 := Lib.hid hv6
  clear hv6
  go_wp2_with fail
  refine (signed_any true _ _ _ _ _ hs6 hx6).mono ?_
  rintro e w4 ⟨A4, n4, c4, xs4, rfl, hs4, hx4, hv4, hb4⟩
  have b1 := b1.below hb4 (by omega)
  have k3 := b1.c0
  have k4 := b1.c1
  have k5 := b1.f 0
  have k6 := b1.f 1
  have H4 := Lib.hid hv4
  clear hv4
  generalize hr : w.heap.size = r at *
  have HRW := Lib.hid (And.intro hb hr)
  clear hb hr
  go_wp2
  exact bodyPost_ret (v := .tuple #[.agg #[.bool (decide (sg true (val xs6) < 0)), .slice A4 n4 c4], .int .i64 0]) (by simp [results, Try.results39, go_sem, k3, k4]) rfl
    ⟨A4, n4, c4, xs4, by rw [H6.out, H5.out, H3.out, H2.out]; rfl, hs4.ret b1 _ _, hx4, by rw [H4.out, H6.out, H5.out, H3.out, H2.out]; rfl, by rw [HRW.out.2]; exact below_ret (below_chain (below_chain (below_chain (below_chain (below_chain HRW.out.1 (by omega) hb2) (by omega) hb3) (by omega) hb5) (by omega) hb6) (by omega) hb4) (show r ≤ r + 1 by omega) _ _⟩

end Go.Proofs.Ytalgcppogjpilaa
