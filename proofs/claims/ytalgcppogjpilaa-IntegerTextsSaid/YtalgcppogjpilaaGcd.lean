/-
  The walk of gcdMag where both magnitudes have at most two limbs, and neither is 0.
-/
import Derived.Test.YtalgcppogjpilaaDivMag
import Derived.Test.YtalgcppogjpilaaAddSub
namespace Go.Proofs.Ytalgcppogjpilaa
open Go.RowKit

/-- gcdMag finds the divisor of these two. -/
def GcdSpec (xs ys : List Nat) : Prop := ∀ (A A' : Option Addr) (n c n' c' : Nat) (w : World), Sl w w.heap.size A n c xs → Sl w w.heap.size A' n' c' ys →
  Calls Try.prog 68 #[.slice A n c, .slice A' n' c'] w (RetNum (Nat.gcd (val xs) (val ys)) w)

theorem two_limbs {w : World} {B n c : Nat} {A : Option Addr} {xs : List Nat} (h : Sl w B A n c xs) (hn : n ≤ 2) : val xs < 18446744073709551616 := by
  have a := val_lt h.ok
  have b : 4294967296 ^ xs.length ≤ 4294967296 ^ 2 := Nat.pow_le_pow_right (by decide) (by rw [h.len]; exact hn)
  exact Nat.lt_of_lt_of_le a b
theorem cmpv_ge {a b : Nat} (h : b ≤ a) : 0 ≤ cmpv a b := by
  rcases Nat.lt_or_ge b a with h1 | h1
  · rw [cmpv_gt h1]; omega
  · have e : a = b := by omega
    rw [e, cmpv_eq]; omega

set_option maxHeartbeats 1000000 in
theorem gcd_words (A A' : Option Addr) (n c n' c' : Nat) (xs ys : List Nat) (w : World) (h : Sl w w.heap.size A n c xs) (h' : Sl w w.heap.size A' n' c' ys) (hx : Nz xs) (hy : Nz ys) (hn : n ≤ 2) (hn' : n' ≤ 2) (h0 : 0 < n) (h0' : 0 < n') (hle : val ys ≤ val xs) :
    Calls Try.prog 68 #[.slice A n c, .slice A' n' c'] w (RetNum (Nat.gcd (val xs) (val ys)) w) := by
  have Hc := Lib.hid (show 0 ≤ cmpv (val xs) (val ys) by exact cmpv_ge hle)
  have Hx := Lib.hid (two_limbs h hn)
  have Hy := Lib.hid (two_limbs h' hn')
  clear hle
  have i4 : ((n' : Int) == 0) = false := by rw [beq_eq_false_iff_ne]; omega
  have i5 : decide (2 < (n : Int)) = false := by simp; omega
  have i6 : decide (2 < (n' : Int)) = false := by simp; omega
  have i7 : decide (0 < (n' : Int)) = true := by simp; omega
  have i8 : ((n : Int) == 0) = false := by rw [beq_eq_false_iff_ne]; omega
  have i9 : decide (0 < (n : Int)) = true := by simp; omega
  go_enter Try.func68, Try.ntmps68
  go_wp2_with fail
  refine (cmpMag_any _ _ _ _ _ _ _ _ xs ys _ h h' hx hy).mono ?_
  rintro e w0 ⟨rfl, q, rfl⟩
  have hc := Hc.out
  have hs : Sl (w.drewN q) (w.drewN q).heap.size A n c xs := h.drewN q
  have hs' : Sl (w.drewN q) (w.drewN q).heap.size A' n' c' ys := h'.drewN q
  go_wp2_with fail
  refine (wordOf_any _ _ _ _ xs _ hs hn).mono ?_
  rintro e w1 ⟨rfl, rfl⟩
  go_wp2_with fail
  refine (wordOf_any _ _ _ _ ys _ hs' hn').mono ?_
  rintro e w2 ⟨rfl, rfl⟩
  go_wp2
  go_loopw [7, 8] (fun xv yv wr => ∃ x y p : Nat, xv = .int .u64 x ∧ yv = .int .u64 y ∧ x < 18446744073709551616 ∧ y < 18446744073709551616 ∧ wr = w.drewN p ∧ Hid (Nat.gcd (val xs) (val ys) = Nat.gcd x y)) (fun _ yv _ => (intOf yv).toNat)
  case atStart => exact ⟨val xs, val ys, q, rfl, rfl, Hx.out, Hy.out, rfl, rfl⟩
  case round =>
    obtain ⟨x, y, p, rfl, rfl, hxl, hyl, rfl, Hgcd⟩ := hrel
    by_cases hy0 : y = 0
    · subst hy0
      have Hg := Lib.hid (show Nat.gcd (val xs) (val ys) = x by rw [Hgcd.out, Nat.gcd_zero_right])
      have e0 : (((0 : Nat) : Int) != 0) = false := by simp
      go_wp2_with fail
      refine (ofWord_any (x : Int) _ (by omega) (by omega)).mono ?_
      rintro e w3 ⟨A3, n3, c3, xs3, rfl, hs3, hx3, hv3, hb3⟩
      have hb := below_undrewN hb3
      have Hv := Lib.hid hv3
      clear hv3 hb3
      go_wp2
      go_ret
      exact ⟨A3, n3, c3, xs3, rfl, hs3, hx3, by rw [Hv.out, Hg.out]; omega, hb⟩
    · have e0 : ((y : Int) != 0) = true := by rw [bne_iff_ne]; omega
      have e1 : ((y : Int) == 0) = false := by rw [beq_eq_false_iff_ne]; omega
      have hyp : 0 < (y : Int) := by omega
      have Hm := Lib.hid (Nat.mod_lt x (show 0 < y by omega))
      have Hg := Lib.hid (show Nat.gcd (val xs) (val ys) = Nat.gcd y (x % y) by rw [Hgcd.out, Nat.gcd_comm x y, Nat.gcd_rec y x, Nat.gcd_comm])
      go_wp2_with fail
      go_quiet (fail)
      go_wp2
      have em : (x : Int) % (y : Int) = ((x % y : Nat) : Int) := (Int.natCast_emod x y).symm
      rw [em]
      have Hlt := Hm.out
      exact ⟨⟨y, x % y, p + nq, rfl, rfl, hyl, by omega, World.drewN_drewN _ _ _, Hg.out⟩, by simp only [intOf, Int.toNat_natCast]; exact Hlt⟩

set_option maxHeartbeats 1000000 in
theorem gcd_words_swap (A A' : Option Addr) (n c n' c' : Nat) (xs ys : List Nat) (w : World) (h : Sl w w.heap.size A n c xs) (h' : Sl w w.heap.size A' n' c' ys) (hx : Nz xs) (hy : Nz ys) (hn : n ≤ 2) (hn' : n' ≤ 2) (h0 : 0 < n) (h0' : 0 < n') (hle : val xs < val ys) :
    Calls Try.prog 68 #[.slice A n c, .slice A' n' c'] w (RetNum (Nat.gcd (val xs) (val ys)) w) := by
  have Hc := Lib.hid (show cmpv (val xs) (val ys) < 0 by rw [cmpv_lt hle]; decide)
  have Hx := Lib.hid (two_limbs h hn)
  have Hy := Lib.hid (two_limbs h' hn')
  clear hle
  have i4 : ((n' : Int) == 0) = false := by rw [beq_eq_false_iff_ne]; omega
  have i5 : decide (2 < (n : Int)) = false := by simp; omega
  have i6 : decide (2 < (n' : Int)) = false := by simp; omega
  have i7 : decide (0 < (n' : Int)) = true := by simp; omega
  have i8 : ((n : Int) == 0) = false := by rw [beq_eq_false_iff_ne]; omega
  have i9 : decide (0 < (n : Int)) = true := by simp; omega
  go_enter Try.func68, Try.ntmps68
  go_wp2_with fail
  refine (cmpMag_any _ _ _ _ _ _ _ _ xs ys _ h h' hx hy).mono ?_
  rintro e w0 ⟨rfl, q, rfl⟩
  have hc := Hc.out
  have hs : Sl (w.drewN q) (w.drewN q).heap.size A n c xs := h.drewN q
  have hs' : Sl (w.drewN q) (w.drewN q).heap.size A' n' c' ys := h'.drewN q
  go_wp2_with fail
  refine (wordOf_any _ _ _ _ ys _ hs' hn').mono ?_
  rintro e w1 ⟨rfl, rfl⟩
  go_wp2_with fail
  refine (wordOf_any _ _ _ _ xs _ hs hn).mono ?_
  rintro e w2 ⟨rfl, rfl⟩
  go_wp2
  go_loopw [7, 8] (fun xv yv wr => ∃ x y p : Nat, xv = .int .u64 x ∧ yv = .int .u64 y ∧ x < 18446744073709551616 ∧ y < 18446744073709551616 ∧ wr = w.drewN p ∧ Hid (Nat.gcd (val xs) (val ys) = Nat.gcd x y)) (fun _ yv _ => (intOf yv).toNat)
  case atStart => exact ⟨val ys, val xs, q, rfl, rfl, Hy.out, Hx.out, rfl, Nat.gcd_comm _ _⟩
  case round =>
    obtain ⟨x, y, p, rfl, rfl, hxl, hyl, rfl, Hgcd⟩ := hrel
    by_cases hy0 : y = 0
    · subst hy0
      have Hg := Lib.hid (show Nat.gcd (val xs) (val ys) = x by rw [Hgcd.out, Nat.gcd_zero_right])
      have e0 : (((0 : Nat) : Int) != 0) = false := by simp
      go_wp2_with fail
      refine (ofWord_any (x : Int) _ (by omega) (by omega)).mono ?_
      rintro e w3 ⟨A3, n3, c3, xs3, rfl, hs3, hx3, hv3, hb3⟩
      have hb := below_undrewN hb3
      have Hv := Lib.hid hv3
      clear hv3 hb3
      go_wp2
      go_ret
      exact ⟨A3, n3, c3, xs3, rfl, hs3, hx3, by rw [Hv.out, Hg.out]; omega, hb⟩
    · have e0 : ((y : Int) != 0) = true := by rw [bne_iff_ne]; omega
      have e1 : ((y : Int) == 0) = false := by rw [beq_eq_false_iff_ne]; omega
      have hyp : 0 < (y : Int) := by omega
      have Hm := Lib.hid (Nat.mod_lt x (show 0 < y by omega))
      have Hg := Lib.hid (show Nat.gcd (val xs) (val ys) = Nat.gcd y (x % y) by rw [Hgcd.out, Nat.gcd_comm x y, Nat.gcd_rec y x, Nat.gcd_comm])
      go_wp2_with fail
      go_quiet (fail)
      go_wp2
      have em : (x : Int) % (y : Int) = ((x % y : Nat) : Int) := (Int.natCast_emod x y).symm
      rw [em]
      have Hlt := Hm.out
      exact ⟨⟨y, x % y, p + nq, rfl, rfl, hyl, by omega, World.drewN_drewN _ _ _, Hg.out⟩, by simp only [intOf, Int.toNat_natCast]; exact Hlt⟩

theorem gcdMag_small {xs ys : List Nat} (hx : Nz xs) (hy : Nz ys) (hn : xs.length ≤ 2) (hn' : ys.length ≤ 2) (h0 : xs ≠ []) (h0' : ys ≠ []) : GcdSpec xs ys := by
  intro A A' n c n' c' w h h'
  have l1 := h.len
  have l2 := h'.len
  have p1 := List.length_pos_iff.2 h0
  have p2 := List.length_pos_iff.2 h0'
  rcases Nat.lt_or_ge (val xs) (val ys) with hlt | hge
  · exact gcd_words_swap A A' n c n' c' xs ys w h h' hx hy (by omega) (by omega) (by omega) (by omega) hlt
  · exact gcd_words A A' n c n' c' xs ys w h h' hx hy (by omega) (by omega) (by omega) (by omega) hge

set_option maxHeartbeats 1000000 in
theorem gcd_bad1 (neg neg' : Bool) (A A' : Option Addr) (n c n' c' : Nat) (xs : List Nat) (w : World) (h : Sl w w.heap.size A n c xs) (hv : vld neg xs = false) :
    Calls Try.prog 33 #[.agg #[.bool neg, .slice A n c], .agg #[.bool neg', .slice A' n' c']] w (RetIE 0 1 w) := by
  go_enter Try.func33, Try.ntmps33
  go_wp2_with fail
  generalize hW : World.alloc (World.alloc (World.alloc w _) _) _ = W
  obtain ⟨hb, hz, b0, b1, b2⟩ := sum_boxes neg neg' A A' n c n' c' w W hW
  have hs := h.on hb
  clear hW
  refine (valid_any _ _ _ _ _ xs _ hs (Nat.le_refl _)).mono ?_
  rintro e w1 ⟨rfl, hb1⟩
  have b2' := b2.below hb1 (by omega)
  have k3 := b2'.c0
  have k4 := b2'.c1
  have k5 := b2'.f 0
  have k6 := b2'.f 1
  generalize hr : w.heap.size = r at *
  have HRW := Lib.hid (And.intro hb hr)
  clear hb hr
  go_wp2
  exact bodyPost_ret (v := .tuple #[.agg #[.bool false, .slice none 0 0], .int .i64 1]) (by simp [results, Try.results33, go_sem, k3, k4]) rfl
    ⟨none, 0, 0, [], rfl, Sl.nil _ _, Nz.nil, rfl, by rw [HRW.out.2]; exact below_ret (below_chain HRW.out.1 (by omega) hb1) (show r ≤ r + 1 + 1 by omega) _ _⟩

set_option maxHeartbeats 1000000 in
theorem gcd_bad2 (neg neg' : Bool) (A A' : Option Addr) (n c n' c' : Nat) (xs ys : List Nat) (w : World) (h : Sl w w.heap.size A n c xs) (h' : Sl w w.heap.size A' n' c' ys) (hv : vld neg xs = true) (hv' : vld neg' ys = false) :
    Calls Try.prog 33 #[.agg #[.bool neg, .slice A n c], .agg #[.bool neg', .slice A' n' c']] w (RetIE 0 1 w) := by
  go_enter Try.func33, Try.ntmps33
  go_wp2_with fail
  generalize hW : World.alloc (World.alloc (World.alloc w _) _) _ = W
  obtain ⟨hb, hz, b0, b1, b2⟩ := sum_boxes neg neg' A A' n c n' c' w W hW
  have hs := h.on hb
  have hs' := h'.on hb
  clear hW
  refine (valid_any _ _ _ _ _ xs _ hs (Nat.le_refl _)).mono ?_
  rintro e w1 ⟨rfl, hb1⟩
  have hz1 : w.heap.size + 1 + 1 < w1.heap.size := by have := hb1.size; omega
  have b1' := b1.below hb1 (by omega)
  have b2' := b2.below hb1 (by omega)
  have q0 := b1'.c0
  have q1 := b1'.c1
  go_wp2_with fail
  refine (valid_any _ _ _ _ _ ys _ (hs'.on hb1) (Nat.le_refl _)).mono ?_
  rintro e w2 ⟨rfl, hb2⟩
  clear q0 q1
  have b2'' := b2'.below hb2 (by omega)
  have k3 := b2''.c0
  have k4 := b2''.c1
  have k5 := b2''.f 0
  have k6 := b2''.f 1
  generalize hr : w.heap.size = r at *
  have HRW := Lib.hid (And.intro hb hr)
  clear hb hr
  go_wp2
  exact bodyPost_ret (v := .tuple #[.agg #[.bool false, .slice none 0 0], .int .i64 1]) (by simp [results, Try.results33, go_sem, k3, k4]) rfl
    ⟨none, 0, 0, [], rfl, Sl.nil _ _, Nz.nil, rfl, by rw [HRW.out.2]; exact below_ret (below_chain (below_chain HRW.out.1 (by omega) hb1) (by omega) hb2) (show r ≤ r + 1 + 1 by omega) _ _⟩

set_option maxHeartbeats 1000000 in
theorem gcd_good (neg neg' : Bool) (A A' : Option Addr) (n c n' c' : Nat) (xs ys : List Nat) (w : World) (h : Sl w w.heap.size A n c xs) (h' : Sl w w.heap.size A' n' c' ys) (hv : vld neg xs = true) (hv' : vld neg' ys = true) (hd : GcdSpec xs ys) :
    Calls Try.prog 33 #[.agg #[.bool neg, .slice A n c], .agg #[.bool neg', .slice A' n' c']] w (RetIE (Nat.gcd (val xs) (val ys) : Nat) 0 w) := by
  go_enter Try.func33, Try.ntmps33
  go_wp2_with fail
  generalize hW : World.alloc (World.alloc (World.alloc w _) _) _ = W
  obtain ⟨hb, hz, b0, b1, b2⟩ := sum_boxes neg neg' A A' n c n' c' w W hW
  have hs := h.on hb
  have hs' := h'.on hb
  clear hW
  refine (valid_any _ _ _ _ _ xs _ hs (Nat.le_refl _)).mono ?_
  rintro e w1 ⟨rfl, hb1⟩
  have hz1 : w.heap.size + 1 + 1 < w1.heap.size := by have := hb1.size; omega
  have b0' := b0.below hb1 (by omega)
  have b1' := b1.below hb1 (by omega)
  have b2' := b2.below hb1 (by omega)
  have hs1 := hs.on hb1
  have hs1' := hs'.on hb1
  have q0 := b1'.c0
  have q1 := b1'.c1
  go_wp2_with fail
  refine (valid_any _ _ _ _ _ ys _ hs1' (Nat.le_refl _)).mono ?_
  rintro e w2 ⟨rfl, hb2⟩
  clear q0 q1
  have hz2 : w.heap.size + 1 + 1 < w2.heap.size := by have := hb2.size; omega
  have b0'' := b0'.below hb2 (by omega)
  have b1'' := b1'.below hb2 (by omega)
  have b2'' := b2'.below hb2 (by omega)
  have hs2 := hs1.on hb2
  have hs2' := hs1'.on hb2
  have k0 := b0''.c0
  have k1 := b0''.c1
  have k2 := b1''.c0
  have k3 := b1''.c1
  generalize hr : w.heap.size = r at *
  have HRW := Lib.hid (And.intro hb hr)
  clear hb hr
  go_wp2_with fail
  refine (hd _ _ _ _ _ _ _ hs2 hs2').mono ?_
  rintro e w3 ⟨A3, n3, c3, xs3, rfl, hs3, hx3, hv3, hb3⟩
  have b3 := b2''.below hb3 (by omega)
  have hz3 : r + 1 + 1 < w3.heap.size := b3.lt
  have Hv3 := Lib.hid hv3
  clear hv3
  go_wp2_with fail
  refine (signed_any false _ _ _ _ _ hs3 hx3).mono ?_
  rintro e w4 ⟨A4, n4, c4, xs4, rfl, hs4, hx4, hv4, hb4⟩
  have b4 := b3.below hb4 (by omega)
  have j3 := b4.c0
  have j4 := b4.c1
  have j5 := b4.f 0
  have j6 := b4.f 1
  have Hv4 := Lib.hid hv4
  clear hv4
  go_wp2
  exact bodyPost_ret (v := .tuple #[.agg #[.bool (decide (sg false (val xs3) < 0)), .slice A4 n4 c4], .int .i64 0]) (by simp [results, Try.results33, go_sem, j3, j4]) rfl
    ⟨A4, n4, c4, xs4, by rw [Hv3.out]; rfl, hs4.ret b4 _ _, hx4, by rw [Hv4.out, Hv3.out]; rfl, by rw [HRW.out.2]; exact below_ret (below_chain (below_chain (below_chain (below_chain HRW.out.1 (by omega) hb1) (by omega) hb2) (by omega) hb3) (by omega) hb4) (show r ≤ r + 1 + 1 by omega) _ _⟩

end Go.Proofs.Ytalgcppogjpilaa
