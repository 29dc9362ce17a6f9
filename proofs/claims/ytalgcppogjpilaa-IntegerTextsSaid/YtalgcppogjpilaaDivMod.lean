/-
  The walk of DivMod, of any two valid arguments that divMag divides.
-/
import Derived.Test.YtalgcppogjpilaaDivMag
import Derived.Test.YtalgcppogjpilaaAddSub
namespace Go.Proofs.Ytalgcppogjpilaa
open Go.RowKit

/-- Two integers and an error are handed back. -/
def RetI2E (z z' er : Int) (w : World) (e : Ending) (w' : World) : Prop := ∃ A n c xs A' n' c' ys,
  e = .returned (.tuple #[.agg #[.bool (decide (z < 0)), .slice A n c], .agg #[.bool (decide (z' < 0)), .slice A' n' c'], .int .i64 er]) ∧
  Sl w' w'.heap.size A n c xs ∧ Nz xs ∧ val xs = z.natAbs ∧ Sl w' w'.heap.size A' n' c' ys ∧ Nz ys ∧ val ys = z'.natAbs ∧ Below w.heap.size w w'

theorem div_boxes (neg neg' : Bool) (A A' : Option Addr) (n c n' c' : Nat) (w W : World)
    (hW : (((w.alloc (.cells #[.bool neg, .slice A n c] 24)).alloc (.cells #[.bool neg', .slice A' n' c'] 24)).alloc (.cells #[.bool false, .slice none 0 0] 24)).alloc (.cells #[.bool false, .slice none 0 0] 24) = W) :
    Below w.heap.size w W ∧ w.heap.size + 1 + 1 + 1 < W.heap.size ∧ Bx W w.heap.size neg A n c ∧ Bx W (w.heap.size + 1) neg' A' n' c' ∧ Bx W (w.heap.size + 1 + 1) false none 0 0 ∧ Bx W (w.heap.size + 1 + 1 + 1) false none 0 0 := by
  obtain ⟨h1, h2, h3, h4, h5⟩ := sum_boxes neg neg' A A' n c n' c' w _ rfl
  subst hW
  refine ⟨h1.alloc (by omega) _, by simp, h3.alloc _, h4.alloc _, h5.alloc _, ?_⟩
  have := Bx.new (((w.alloc (.cells #[.bool neg, .slice A n c] 24)).alloc (.cells #[.bool neg', .slice A' n' c'] 24)).alloc (.cells #[.bool false, .slice none 0 0] 24)) false none 0 0
  simpa using this

/-- Two result cells are written. -/
theorem Sl.ret2 {w : World} {n c r r' : Nat} {A : Option Addr} {xs : List Nat} (h : Sl w w.heap.size A n c xs) (hr : Bx w r false none 0 0) (hr' : Bx w r' false none 0 0) (hne : r ≠ r') (b b' : Bool) (v v' : Value) :
    Sl ((((w.setCell ⟨r, 0, none⟩ (.bool b)).setCell ⟨r, 1, none⟩ v).setCell ⟨r', 0, none⟩ (.bool b')).setCell ⟨r', 1, none⟩ v') ((((w.setCell ⟨r, 0, none⟩ (.bool b)).setCell ⟨r, 1, none⟩ v).setCell ⟨r', 0, none⟩ (.bool b')).setCell ⟨r', 1, none⟩ v').heap.size A n c xs := by
  have h1 := h.ret hr b v
  have hb : Bx ((w.setCell ⟨r, 0, none⟩ (.bool b)).setCell ⟨r, 1, none⟩ v) r' false none 0 0 := Blk.far (Blk.far hr' (p := ⟨r, 0, none⟩) (fun e => hne e.symm) _) (p := ⟨r, 1, none⟩) (fun e => hne e.symm) _
  exact h1.ret hb b' v'

set_option maxHeartbeats 1000000 in
theorem divMod_bad1 (neg neg' : Bool) (A A' : Option Addr) (n c n' c' : Nat) (xs ys : List Nat) (w : World) (h : Sl w w.heap.size A n c xs) (h' : Sl w w.heap.size A' n' c' ys) (hv : vld neg xs = false) :
    Calls Try.prog 31 #[.agg #[.bool neg, .slice A n c], .agg #[.bool neg', .slice A' n' c']] w (RetI2E 0 0 1 w) := by
  go_enter Try.func31, Try.ntmps31
  go_wp2_with fail
  generalize hW : World.alloc (World.alloc (World.alloc (World.alloc w _) _) _) _ = W
  obtain ⟨hb, hz, b0, b1, b2, b3⟩ := div_boxes neg neg' A A' n c n' c' w W hW
  have hs := h.on hb
  have hs' := h'.on hb
  clear hW
  refine (valid_any _ _ _ _ _ xs _ hs (Nat.le_refl _)).mono ?_
  rintro e w1 ⟨rfl, hb1⟩
  have hz1 : w.heap.size + 1 + 1 + 1 < w1.heap.size := by have := hb1.size; omega
  have b1 := b1.below hb1 (by omega)
  have b2 := b2.below hb1 (by omega)
  have b3 := b3.below hb1 (by omega)
  have k1 := b1.c1
  have k3 := b2.c0
  have k4 := b2.c1
  have k5 := b2.f 0
  have k6 := b2.f 1
  have j3 := b3.c0
  have j4 := b3.c1
  have j5 := b3.f 0
  have j6 := b3.f 1
  generalize hr : w.heap.size = r at *
  have HRW := Lib.hid (And.intro hb hr)
  clear hb hr
  go_wp2
  exact bodyPost_ret (v := .tuple #[.agg #[.bool false, .slice none 0 0], .agg #[.bool false, .slice none 0 0], .int .i64 1]) (by simp [results, Try.results31, go_sem, k3, k4, j3, j4]) rfl
    ⟨none, 0, 0, [], none, 0, 0, [], rfl, Sl.nil _ _, Nz.nil, rfl, Sl.nil _ _, Nz.nil, rfl, by rw [HRW.out.2]; exact below_ret (below_ret (below_chain HRW.out.1 (by omega) hb1) (show r ≤ r + 1 + 1 by omega) _ _) (show r ≤ r + 1 + 1 + 1 by omega) _ _⟩

set_option maxHeartbeats 1000000 in
theorem divMod_bad2 (neg neg' : Bool) (A A' : Option Addr) (n c n' c' : Nat) (xs ys : List Nat) (w : World) (h : Sl w w.heap.size A n c xs) (h' : Sl w w.heap.size A' n' c' ys) (hv : vld neg xs = true) (hv' : vld neg' ys = false) :
    Calls Try.prog 31 #[.agg #[.bool neg, .slice A n c], .agg #[.bool neg', .slice A' n' c']] w (RetI2E 0 0 1 w) := by
  go_enter Try.func31, Try.ntmps31
  go_wp2_with fail
  generalize hW : World.alloc (World.alloc (World.alloc (World.alloc w _) _) _) _ = W
  obtain ⟨hb, hz, b0, b1, b2, b3⟩ := div_boxes neg neg' A A' n c n' c' w W hW
  have hs := h.on hb
  have hs' := h'.on hb
  clear hW
  refine (valid_any _ _ _ _ _ xs _ hs (Nat.le_refl _)).mono ?_
  rintro e w1 ⟨rfl, hb1⟩
  have hz1 : w.heap.size + 1 + 1 + 1 < w1.heap.size := by have := hb1.size; omega
  have b1 := b1.below hb1 (by omega)
  have b2 := b2.below hb1 (by omega)
  have b3 := b3.below hb1 (by omega)
  have q0 := b1.c0
  have q1 := b1.c1
  go_wp2_with fail
  refine (valid_any _ _ _ _ _ ys _ (hs'.on hb1) (Nat.le_refl _)).mono ?_
  rintro e w2 ⟨rfl, hb2⟩
  clear q0 q1
  have b1 := b1.below hb2 (by omega)
  have b2 := b2.below hb2 (by omega)
  have b3 := b3.below hb2 (by omega)
  have k1 := b1.c1
  have k3 := b2.c0
  have k4 := b2.c1
  have k5 := b2.f 0
  have k6 := b2.f 1
  have j3 := b3.c0
  have j4 := b3.c1
  have j5 := b3.f 0
  have j6 := b3.f 1
  generalize hr : w.heap.size = r at *
  have HRW := Lib.hid (And.intro hb hr)
  clear hb hr
  go_wp2
  exact bodyPost_ret (v := .tuple #[.agg #[.bool false, .slice none 0 0], .agg #[.bool false, .slice none 0 0], .int .i64 1]) (by simp [results, Try.results31, go_sem, k3, k4, j3, j4]) rfl
    ⟨none, 0, 0, [], none, 0, 0, [], rfl, Sl.nil _ _, Nz.nil, rfl, Sl.nil _ _, Nz.nil, rfl, by rw [HRW.out.2]; exact below_ret (below_ret (below_chain (below_chain HRW.out.1 (by omega) hb1) (by omega) hb2) (show r ≤ r + 1 + 1 by omega) _ _) (show r ≤ r + 1 + 1 + 1 by omega) _ _⟩

set_option maxHeartbeats 1000000 in
theorem divMod_zero (neg neg' : Bool) (A A' : Option Addr) (n c n' c' : Nat) (xs ys : List Nat) (w : World) (h : Sl w w.heap.size A n c xs) (h' : Sl w w.heap.size A' n' c' ys) (hv : vld neg xs = true) (hv' : vld neg' ys = true) (h0 : ys = []) :
    Calls Try.prog 31 #[.agg #[.bool neg, .slice A n c], .agg #[.bool neg', .slice A' n' c']] w (RetI2E 0 0 4 w) := by
  obtain rfl : n' = 0 := by have := h'.len; rw [h0] at this; simpa using this.symm
  clear h0
  go_enter Try.func31, Try.ntmps31
  go_wp2_with fail
  generalize hW : World.alloc (World.alloc (World.alloc (World.alloc w _) _) _) _ = W
  obtain ⟨hb, hz, b0, b1, b2, b3⟩ := div_boxes neg neg' A A' n c 0 c' w W hW
  have hs := h.on hb
  have hs' := h'.on hb
  clear hW
  refine (valid_any _ _ _ _ _ xs _ hs (Nat.le_refl _)).mono ?_
  rintro e w1 ⟨rfl, hb1⟩
  have hz1 : w.heap.size + 1 + 1 + 1 < w1.heap.size := by have := hb1.size; omega
  have b1 := b1.below hb1 (by omega)
  have b2 := b2.below hb1 (by omega)
  have b3 := b3.below hb1 (by omega)
  have q0 := b1.c0
  have q1 := b1.c1
  go_wp2_with fail
  refine (valid_any _ _ _ _ _ ys _ (hs'.on hb1) (Nat.le_refl _)).mono ?_
  rintro e w2 ⟨rfl, hb2⟩
  clear q0 q1
  have b1 := b1.below hb2 (by omega)
  have b2 := b2.below hb2 (by omega)
  have b3 := b3.below hb2 (by omega)
  have k1 := b1.c1
  have k3 := b2.c0
  have k4 := b2.c1
  have k5 := b2.f 0
  have k6 := b2.f 1
  have j3 := b3.c0
  have j4 := b3.c1
  have j5 := b3.f 0
  have j6 := b3.f 1
  generalize hr : w.heap.size = r at *
  have HRW := Lib.hid (And.intro hb hr)
  clear hb hr
  go_wp2
  exact bodyPost_ret (v := .tuple #[.agg #[.bool false, .slice none 0 0], .agg #[.bool false, .slice none 0 0], .int .i64 4]) (by simp [results, Try.results31, go_sem, k3, k4, j3, j4]) rfl
    ⟨none, 0, 0, [], none, 0, 0, [], rfl, Sl.nil _ _, Nz.nil, rfl, Sl.nil _ _, Nz.nil, rfl, by rw [HRW.out.2]; exact below_ret (below_ret (below_chain (below_chain HRW.out.1 (by omega) hb1) (by omega) hb2) (show r ≤ r + 1 + 1 by omega) _ _) (show r ≤ r + 1 + 1 + 1 by omega) _ _⟩

/-- The quotient, rounded down, and the remainder, which has the sign of the divisor. -/
def dq (neg neg' : Bool) (a b : Nat) : Int := if (neg != neg') = true ∧ 0 < a % b then sg true (a / b + 1) else sg (neg != neg') (a / b)
def dr (neg neg' : Bool) (a b : Nat) : Int := if (neg != neg') = true ∧ 0 < a % b then sg neg' (b - a % b) else sg neg' (a % b)

set_option maxHeartbeats 2000000 in
theorem divMod_ff (A A' : Option Addr) (n c n' c' : Nat) (xs ys : List Nat) (w : World) (h : Sl w w.heap.size A n c xs) (h' : Sl w w.heap.size A' n' c' ys)
    (hv : vld false xs = true) (hv' : vld false ys = true) (h0 : ys ≠ []) (hd : DivSpec xs ys) :
    Calls Try.prog 31 #[.agg #[.bool false, .slice A n c], .agg #[.bool false, .slice A' n' c']] w (RetI2E (sg false (val xs / val ys : Nat)) (sg false (val xs % val ys : Nat)) 0 w) := by
  have Hg := Lib.hid (And.intro (vld_true hv) (vld_true hv'))
  have hn0 : 0 < n' := by
    have := h'.len
    rcases Nat.eq_zero_or_pos n' with e | e
    · rw [e] at this; exact absurd (List.eq_nil_of_length_eq_zero this) h0
    · exact e
  have Hpos := Lib.hid (val_pos Hg.out.2.2.1 h0)
  clear h0
  have i4 : ((n' : Int) == 0) = false := by rw [beq_eq_false_iff_ne]; omega
  go_enter Try.func31, Try.ntmps31
  go_wp2_with fail
  generalize hW : World.alloc (World.alloc (World.alloc (World.alloc w _) _) _) _ = W
  obtain ⟨hb, hz, b0, b1, b2, b3⟩ := div_boxes false false A A' n c n' c' w W hW
  have hs := h.on hb
  have hs' := h'.on hb
  clear hW
  refine (valid_any _ _ _ _ _ xs _ hs (Nat.le_refl _)).mono ?_
  rintro e w1 ⟨rfl, hb1⟩
  have hz1 : w.heap.size + 1 + 1 + 1 < w1.heap.size := by have := hb1.size; omega
  have b0 := b0.below hb1 (by omega)
  have b1 := b1.below hb1 (by omega)
  have b2 := b2.below hb1 (by omega)
  have b3 := b3.below hb1 (by omega)
  have hs := hs.on hb1
  have hs' := hs'.on hb1
  have q0 := b1.c0
  have q1 := b1.c1
  go_wp2_with fail
  refine (valid_any _ _ _ _ _ ys _ hs' (Nat.le_refl _)).mono ?_
  rintro e w2 ⟨rfl, hb2⟩
  clear q0 q1
  have hz2 : w.heap.size + 1 + 1 + 1 < w2.heap.size := by have := hb2.size; omega
  have b0 := b0.below hb2 (by omega)
  have b1 := b1.below hb2 (by omega)
  have b2 := b2.below hb2 (by omega)
  have b3 := b3.below hb2 (by omega)
  have hs := hs.on hb2
  have hs' := hs'.on hb2
  have q0 := b0.c1
  have q1 := b1.c1
  go_wp2_with fail
  refine (hd _ _ _ _ _ _ _ hs hs').mono ?_
  rintro e w3 ⟨A3, n3, c3, xs3, A4, n4, c4, xs4, rfl, hs3, hx3, hv3, hs4, hx4, hv4, hb3⟩
  clear q0 q1
  have hz3 : w.heap.size + 1 + 1 + 1 < w3.heap.size := by have := hb3.size; omega
  have b0 := b0.below hb3 (by omega)
  have b1 := b1.below hb3 (by omega)
  have b2 := b2.below hb3 (by omega)
  have b3 := b3.below hb3 (by omega)
  have hs := hs.on hb3
  have hs' := hs'.on hb3
  have k0 := b0.c0
  have k1 := b1.c0
  have k2 := b1.c1
  have hl4 := hs4.len
  have Hb := Lib.hid (below_chain (below_chain (below_chain hb (by omega) hb1) (by omega) hb2) (by omega) hb3)
  have Hv3 := Lib.hid hv3
  have Hv4 := Lib.hid hv4
  clear hv3 hv4 hl4
  generalize hr : w.heap.size = r at *
  clear hb
  have HR := Lib.hid hr
  clear hr
  have ne1 : r ≠ r + 1 + 1 := by omega
  have ne2 : r + 1 + 1 ≠ r := by omega
  have ne3 : r ≠ r + 1 + 1 + 1 := by omega
  have ne4 : r + 1 + 1 + 1 ≠ r := by omega
  go_wp2_with fail
  go_region_held3 (fun w' => w'.cell? ⟨r, 0, none⟩ = some (.bool false) ∧ w'.cell? ⟨r + 1, 0, none⟩ = some (.bool false))
    (go_keep)
    (first
      | (go_at_call 66
         (with_reducible refine (signed_any _ _ _ _ _ _ hrest hx4).mono ?_)
         rintro e w9 ⟨A9, n9, c9, xs9, rfl, hs9, hx9, hv9, hb9⟩
         have H9 := Lib.hid hv9
         clear hv9
         have hq9 := hs8.on hb9
         have b0'' := b0'.below hb9 (by omega)
         have b1'' := b1'.below hb9 (by omega)
         have b2'' := b2'.below hb9 (by omega)
         have b3'' := b3'.below hb9 (by omega)
         have j0' := b0''.c0
         have j1' := b1''.c0
         have m0 := b2''.c0
         have m1 := b2''.c1
         have m2 := b2''.f 0
         have m3 := b2''.f 1
         have m4 := b3''.c0
         have m5 := b3''.c1
         have m6 := b3''.f 0
         have m7 := b3''.f 1)
      | (go_at_call 66
         (with_reducible refine (signed_any _ _ _ _ _ _ hs3.drew hx3).mono ?_)
         rintro e w8 ⟨A8, n8, c8, xs8, rfl, hs8, hx8, hv8, hb8d⟩
         have hb8 := below_undrew hb8d
         clear hb8d
         have H8 := Lib.hid hv8
         clear hv8
         have hz8 : r + 1 + 1 + 1 < w8.heap.size := by have := hb8.size; omega
         have hrest := hs4.on hb8
         have b0' := b0.below hb8 (by omega)
         have b1' := b1.below hb8 (by omega)
         have b2' := b2.below hb8 (by omega)
         have b3' := b3.below hb8 (by omega)
         have j0 := b0'.c0
         have j1 := b1'.c0))
  go_wp2
  refine bodyPost_ret (v := .tuple #[.agg #[.bool (decide (sg false (val xs3) < 0)), .slice A8 n8 c8], .agg #[.bool (decide (sg false (val xs4) < 0)), .slice A9 n9 c9], .int .i64 0]) ?_ rfl
    ⟨A8, n8, c8, xs8, A9, n9, c9, xs9, by rw [Hv3.out, Hv4.out], hq9.ret2 b2'' b3'' (by omega) _ _ _ _, hx8, by rw [H8.out, Hv3.out], hs9.ret2 b2'' b3'' (by omega) _ _ _ _, hx9, by rw [H9.out, Hv4.out], ?_⟩
  · simp [results, Try.results31, go_sem, m0, m1, m4, m5]
  · rw [HR.out]; exact below_ret (below_ret (below_chain (below_chain Hb.out (by omega) hb8) (by omega) hb9) (show r ≤ r + 1 + 1 by omega) _ _) (show r ≤ r + 1 + 1 + 1 by omega) _ _

set_option maxHeartbeats 2000000 in
theorem divMod_tt (A A' : Option Addr) (n c n' c' : Nat) (xs ys : List Nat) (w : World) (h : Sl w w.heap.size A n c xs) (h' : Sl w w.heap.size A' n' c' ys)
    (hv : vld true xs = true) (hv' : vld true ys = true) (h0 : ys ≠ []) (hd : DivSpec xs ys) :
    Calls Try.prog 31 #[.agg #[.bool true, .slice A n c], .agg #[.bool true, .slice A' n' c']] w (RetI2E (sg false (val xs / val ys : Nat)) (sg true (val xs % val ys : Nat)) 0 w) := by
  have Hg := Lib.hid (And.intro (vld_true hv) (vld_true hv'))
  have hn0 : 0 < n' := by
    have := h'.len
    rcases Nat.eq_zero_or_pos n' with e | e
    · rw [e] at this; exact absurd (List.eq_nil_of_length_eq_zero this) h0
    · exact e
  have Hpos := Lib.hid (val_pos Hg.out.2.2.1 h0)
  clear h0
  have i4 : ((n' : Int) == 0) = false := by rw [beq_eq_false_iff_ne]; omega
  go_enter Try.func31, Try.ntmps31
  go_wp2_with fail
  generalize hW : World.alloc (World.alloc (World.alloc (World.alloc w _) _) _) _ = W
  obtain ⟨hb, hz, b0, b1, b2, b3⟩ := div_boxes true true A A' n c n' c' w W hW
  have hs := h.on hb
  have hs' := h'.on hb
  clear hW
  refine (valid_any _ _ _ _ _ xs _ hs (Nat.le_refl _)).mono ?_
  rintro e w1 ⟨rfl, hb1⟩
  have hz1 : w.heap.size + 1 + 1 + 1 < w1.heap.size := by have := hb1.size; omega
  have b0 := b0.below hb1 (by omega)
  have b1 := b1.below hb1 (by omega)
  have b2 := b2.below hb1 (by omega)
  have b3 := b3.below hb1 (by omega)
  have hs := hs.on hb1
  have hs' := hs'.on hb1
  have q0 := b1.c0
  have q1 := b1.c1
  go_wp2_with fail
  refine (valid_any _ _ _ _ _ ys _ hs' (Nat.le_refl _)).mono ?_
  rintro e w2 ⟨rfl, hb2⟩
  clear q0 q1
  have hz2 : w.heap.size + 1 + 1 + 1 < w2.heap.size := by have := hb2.size; omega
  have b0 := b0.below hb2 (by omega)
  have b1 := b1.below hb2 (by omega)
  have b2 := b2.below hb2 (by omega)
  have b3 := b3.below hb2 (by omega)
  have hs := hs.on hb2
  have hs' := hs'.on hb2
  have q0 := b0.c1
  have q1 := b1.c1
  go_wp2_with fail
  refine (hd _ _ _ _ _ _ _ hs hs').mono ?_
  rintro e w3 ⟨A3, n3, c3, xs3, A4, n4, c4, xs4, rfl, hs3, hx3, hv3, hs4, hx4, hv4, hb3⟩
  clear q0 q1
  have hz3 : w.heap.size + 1 + 1 + 1 < w3.heap.size := by have := hb3.size; omega
  have b0 := b0.below hb3 (by omega)
  have b1 := b1.below hb3 (by omega)
  have b2 := b2.below hb3 (by omega)
  have b3 := b3.below hb3 (by omega)
  have hs := hs.on hb3
  have hs' := hs'.on hb3
  have k0 := b0.c0
  have k1 := b1.c0
  have k2 := b1.c1
  have hl4 := hs4.len
  have Hb := Lib.hid (below_chain (below_chain (below_chain hb (by omega) hb1) (by omega) hb2) (by omega) hb3)
  have Hv3 := Lib.hid hv3
  have Hv4 := Lib.hid hv4
  clear hv3 hv4 hl4
  generalize hr : w.heap.size = r at *
  clear hb
  have HR := Lib.hid hr
  clear hr
  have ne1 : r ≠ r + 1 + 1 := by omega
  have ne2 : r + 1 + 1 ≠ r := by omega
  have ne3 : r ≠ r + 1 + 1 + 1 := by omega
  have ne4 : r + 1 + 1 + 1 ≠ r := by omega
  go_wp2_with fail
  go_region_held3 (fun w' => w'.cell? ⟨r, 0, none⟩ = some (.bool true) ∧ w'.cell? ⟨r + 1, 0, none⟩ = some (.bool true))
    (go_keep)
    (first
      | (go_at_call 66
         (with_reducible refine (signed_any _ _ _ _ _ _ hrest hx4).mono ?_)
         rintro e w9 ⟨A9, n9, c9, xs9, rfl, hs9, hx9, hv9, hb9⟩
         have H9 := Lib.hid hv9
         clear hv9
         have hq9 := hs8.on hb9
         have b0'' := b0'.below hb9 (by omega)
         have b1'' := b1'.below hb9 (by omega)
         have b2'' := b2'.below hb9 (by omega)
         have b3'' := b3'.below hb9 (by omega)
         have j0' := b0''.c0
         have j1' := b1''.c0
         have m0 := b2''.c0
         have m1 := b2''.c1
         have m2 := b2''.f 0
         have m3 := b2''.f 1
         have m4 := b3''.c0
         have m5 := b3''.c1
         have m6 := b3''.f 0
         have m7 := b3''.f 1)
      | (go_at_call 66
         (with_reducible refine (signed_any _ _ _ _ _ _ hs3.drew hx3).mono ?_)
         rintro e w8 ⟨A8, n8, c8, xs8, rfl, hs8, hx8, hv8, hb8d⟩
         have hb8 := below_undrew hb8d
         clear hb8d
         have H8 := Lib.hid hv8
         clear hv8
         have hz8 : r + 1 + 1 + 1 < w8.heap.size := by have := hb8.size; omega
         have hrest := hs4.on hb8
         have b0' := b0.below hb8 (by omega)
         have b1' := b1.below hb8 (by omega)
         have b2' := b2.below hb8 (by omega)
         have b3' := b3.below hb8 (by omega)
         have j0 := b0'.c0
         have j1 := b1'.c0))
  go_wp2
  refine bodyPost_ret (v := .tuple #[.agg #[.bool (decide (sg false (val xs3) < 0)), .slice A8 n8 c8], .agg #[.bool (decide (sg true (val xs4) < 0)), .slice A9 n9 c9], .int .i64 0]) ?_ rfl
    ⟨A8, n8, c8, xs8, A9, n9, c9, xs9, by rw [Hv3.out, Hv4.out], hq9.ret2 b2'' b3'' (by omega) _ _ _ _, hx8, by rw [H8.out, Hv3.out], hs9.ret2 b2'' b3'' (by omega) _ _ _ _, hx9, by rw [H9.out, Hv4.out], ?_⟩
  · simp [results, Try.results31, go_sem, m0, m1, m4, m5]
  · rw [HR.out]; exact below_ret (below_ret (below_chain (below_chain Hb.out (by omega) hb8) (by omega) hb9) (show r ≤ r + 1 + 1 by omega) _ _) (show r ≤ r + 1 + 1 + 1 by omega) _ _

set_option maxHeartbeats 2000000 in
theorem divMod_ft (A A' : Option Addr) (n c n' c' : Nat) (xs ys : List Nat) (w : World) (h : Sl w w.heap.size A n c xs) (h' : Sl w w.heap.size A' n' c' ys)
    (hv : vld false xs = true) (hv' : vld true ys = true) (h0 : ys ≠ []) (hd : DivSpec xs ys) (hk : val xs % val ys = 0) :
    Calls Try.prog 31 #[.agg #[.bool false, .slice A n c], .agg #[.bool true, .slice A' n' c']] w (RetI2E (sg true (val xs / val ys : Nat)) (sg true (val xs % val ys : Nat)) 0 w) := by
  have Hg := Lib.hid (And.intro (vld_true hv) (vld_true hv'))
  have hn0 : 0 < n' := by
    have := h'.len
    rcases Nat.eq_zero_or_pos n' with e | e
    · rw [e] at this; exact absurd (List.eq_nil_of_length_eq_zero this) h0
    · exact e
  have Hpos := Lib.hid (val_pos Hg.out.2.2.1 h0)
  have Hk := Lib.hid hk
  clear hk h0
  have i4 : ((n' : Int) == 0) = false := by rw [beq_eq_false_iff_ne]; omega
  go_enter Try.func31, Try.ntmps31
  go_wp2_with fail
  generalize hW : World.alloc (World.alloc (World.alloc (World.alloc w _) _) _) _ = W
  obtain ⟨hb, hz, b0, b1, b2, b3⟩ := div_boxes false true A A' n c n' c' w W hW
  have hs := h.on hb
  have hs' := h'.on hb
  clear hW
  refine (valid_any _ _ _ _ _ xs _ hs (Nat.le_refl _)).mono ?_
  rintro e w1 ⟨rfl, hb1⟩
  have hz1 : w.heap.size + 1 + 1 + 1 < w1.heap.size := by have := hb1.size; omega
  have b0 := b0.below hb1 (by omega)
  have b1 := b1.below hb1 (by omega)
  have b2 := b2.below hb1 (by omega)
  have b3 := b3.below hb1 (by omega)
  have hs := hs.on hb1
  have hs' := hs'.on hb1
  have q0 := b1.c0
  have q1 := b1.c1
  go_wp2_with fail
  refine (valid_any _ _ _ _ _ ys _ hs' (Nat.le_refl _)).mono ?_
  rintro e w2 ⟨rfl, hb2⟩
  clear q0 q1
  have hz2 : w.heap.size + 1 + 1 + 1 < w2.heap.size := by have := hb2.size; omega
  have b0 := b0.below hb2 (by omega)
  have b1 := b1.below hb2 (by omega)
  have b2 := b2.below hb2 (by omega)
  have b3 := b3.below hb2 (by omega)
  have hs := hs.on hb2
  have hs' := hs'.on hb2
  have q0 := b0.c1
  have q1 := b1.c1
  go_wp2_with fail
  refine (hd _ _ _ _ _ _ _ hs hs').mono ?_
  rintro e w3 ⟨A3, n3, c3, xs3, A4, n4, c4, xs4, rfl, hs3, hx3, hv3, hs4, hx4, hv4, hb3⟩
  clear q0 q1
  have hz3 : w.heap.size + 1 + 1 + 1 < w3.heap.size := by have := hb3.size; omega
  have b0 := b0.below hb3 (by omega)
  have b1 := b1.below hb3 (by omega)
  have b2 := b2.below hb3 (by omega)
  have b3 := b3.below hb3 (by omega)
  have hs := hs.on hb3
  have hs' := hs'.on hb3
  have k0 := b0.c0
  have k1 := b1.c0
  have k2 := b1.c1
  have hl4 := hs4.len
  have Hb := Lib.hid (below_chain (below_chain (below_chain hb (by omega) hb1) (by omega) hb2) (by omega) hb3)
  have Hv3 := Lib.hid hv3
  have Hv4 := Lib.hid hv4
  obtain rfl : n4 = 0 := by
    have e : val xs4 = 0 := by rw [hv4]; exact Hk.out
    rw [val_zero hx4 e] at hl4
    exact hl4.symm
  clear hv3 hv4 hl4
  generalize hr : w.heap.size = r at *
  clear hb
  have HR := Lib.hid hr
  clear hr
  have ne1 : r ≠ r + 1 + 1 := by omega
  have ne2 : r + 1 + 1 ≠ r := by omega
  have ne3 : r ≠ r + 1 + 1 + 1 := by omega
  have ne4 : r + 1 + 1 + 1 ≠ r := by omega
  go_wp2_with fail
  go_region_held3 (fun w' => w'.cell? ⟨r, 0, none⟩ = some (.bool false) ∧ w'.cell? ⟨r + 1, 0, none⟩ = some (.bool true))
    (go_keep)
    (first
      | (go_at_call 66
         (with_reducible refine (signed_any _ _ _ _ _ _ hrest hx4).mono ?_)
         rintro e w9 ⟨A9, n9, c9, xs9, rfl, hs9, hx9, hv9, hb9⟩
         have H9 := Lib.hid hv9
         clear hv9
         have hq9 := hs8.on hb9
         have b0'' := b0'.below hb9 (by omega)
         have b1'' := b1'.below hb9 (by omega)
         have b2'' := b2'.below hb9 (by omega)
         have b3'' := b3'.below hb9 (by omega)
         have j0' := b0''.c0
         have j1' := b1''.c0
         have m0 := b2''.c0
         have m1 := b2''.c1
         have m2 := b2''.f 0
         have m3 := b2''.f 1
         have m4 := b3''.c0
         have m5 := b3''.c1
         have m6 := b3''.f 0
         have m7 := b3''.f 1)
      | (go_at_call 66
         (with_reducible refine (signed_any _ _ _ _ _ _ hs3.drew hx3).mono ?_)
         rintro e w8 ⟨A8, n8, c8, xs8, rfl, hs8, hx8, hv8, hb8d⟩
         have hb8 := below_undrew hb8d
         clear hb8d
         have H8 := Lib.hid hv8
         clear hv8
         have hz8 : r + 1 + 1 + 1 < w8.heap.size := by have := hb8.size; omega
         have hrest := hs4.on hb8
         have b0' := b0.below hb8 (by omega)
         have b1' := b1.below hb8 (by omega)
         have b2' := b2.below hb8 (by omega)
         have b3' := b3.below hb8 (by omega)
         have j0 := b0'.c0
         have j1 := b1'.c0))
  go_wp2
  refine bodyPost_ret (v := .tuple #[.agg #[.bool (decide (sg true (val xs3) < 0)), .slice A8 n8 c8], .agg #[.bool (decide (sg true (val xs4) < 0)), .slice A9 n9 c9], .int .i64 0]) ?_ rfl
    ⟨A8, n8, c8, xs8, A9, n9, c9, xs9, by rw [Hv3.out, Hv4.out], hq9.ret2 b2'' b3'' (by omega) _ _ _ _, hx8, by rw [H8.out, Hv3.out], hs9.ret2 b2'' b3'' (by omega) _ _ _ _, hx9, by rw [H9.out, Hv4.out], ?_⟩
  · simp [results, Try.results31, go_sem, m0, m1, m4, m5]
  · rw [HR.out]; exact below_ret (below_ret (below_chain (below_chain Hb.out (by omega) hb8) (by omega) hb9) (show r ≤ r + 1 + 1 by omega) _ _) (show r ≤ r + 1 + 1 + 1 by omega) _ _

set_option maxHeartbeats 2000000 in
theorem divMod_tf (A A' : Option Addr) (n c n' c' : Nat) (xs ys : List Nat) (w : World) (h : Sl w w.heap.size A n c xs) (h' : Sl w w.heap.size A' n' c' ys)
    (hv : vld true xs = true) (hv' : vld false ys = true) (h0 : ys ≠ []) (hd : DivSpec xs ys) (hk : val xs % val ys = 0) :
    Calls Try.prog 31 #[.agg #[.bool true, .slice A n c], .agg #[.bool false, .slice A' n' c']] w (RetI2E (sg true (val xs / val ys : Nat)) (sg false (val xs % val ys : Nat)) 0 w) := by
  have Hg := Lib.hid (And.intro (vld_true hv) (vld_true hv'))
  have hn0 : 0 < n' := by
    have := h'.len
    rcases Nat.eq_zero_or_pos n' with e | e
    · rw [e] at this; exact absurd (List.eq_nil_of_length_eq_zero this) h0
    · exact e
  have Hpos := Lib.hid (val_pos Hg.out.2.2.1 h0)
  have Hk := Lib.hid hk
  clear hk h0
  have i4 : ((n' : Int) == 0) = false := by rw [beq_eq_false_iff_ne]; omega
  go_enter Try.func31, Try.ntmps31
  go_wp2_with fail
  generalize hW : World.alloc (World.alloc (World.alloc (World.alloc w _) _) _) _ = W
  obtain ⟨hb, hz, b0, b1, b2, b3⟩ := div_boxes true false A A' n c n' c' w W hW
  have hs := h.on hb
  have hs' := h'.on hb
  clear hW
  refine (valid_any _ _ _ _ _ xs _ hs (Nat.le_refl _)).mono ?_
  rintro e w1 ⟨rfl, hb1⟩
  have hz1 : w.heap.size + 1 + 1 + 1 < w1.heap.size := by have := hb1.size; omega
  have b0 := b0.below hb1 (by omega)
  have b1 := b1.below hb1 (by omega)
  have b2 := b2.below hb1 (by omega)
  have b3 := b3.below hb1 (by omega)
  have hs := hs.on hb1
  have hs' := hs'.on hb1
  have q0 := b1.c0
  have q1 := b1.c1
  go_wp2_with fail
  refine (valid_any _ _ _ _ _ ys _ hs' (Nat.le_refl _)).mono ?_
  rintro e w2 ⟨rfl, hb2⟩
  clear q0 q1
  have hz2 : w.heap.size + 1 + 1 + 1 < w2.heap.size := by have := hb2.size; omega
  have b0 := b0.below hb2 (by omega)
  have b1 := b1.below hb2 (by omega)
  have b2 := b2.below hb2 (by omega)
  have b3 := b3.below hb2 (by omega)
  have hs := hs.on hb2
  have hs' := hs'.on hb2
  have q0 := b0.c1
  have q1 := b1.c1
  go_wp2_with fail
  refine (hd _ _ _ _ _ _ _ hs hs').mono ?_
  rintro e w3 ⟨A3, n3, c3, xs3, A4, n4, c4, xs4, rfl, hs3, hx3, hv3, hs4, hx4, hv4, hb3⟩
  clear q0 q1
  have hz3 : w.heap.size + 1 + 1 + 1 < w3.heap.size := by have := hb3.size; omega
  have b0 := b0.below hb3 (by omega)
  have b1 := b1.below hb3 (by omega)
  have b2 := b2.below hb3 (by omega)
  have b3 := b3.below hb3 (by omega)
  have hs := hs.on hb3
  have hs' := hs'.on hb3
  have k0 := b0.c0
  have k1 := b1.c0
  have k2 := b1.c1
  have hl4 := hs4.len
  have Hb := Lib.hid (below_chain (below_chain (below_chain hb (by omega) hb1) (by omega) hb2) (by omega) hb3)
  have Hv3 := Lib.hid hv3
  have Hv4 := Lib.hid hv4
  obtain rfl : n4 = 0 := by
    have e : val xs4 = 0 := by rw [hv4]; exact Hk.out
    rw [val_zero hx4 e] at hl4
    exact hl4.symm
  clear hv3 hv4 hl4
  generalize hr : w.heap.size = r at *
  clear hb
  have HR := Lib.hid hr
  clear hr
  have ne1 : r ≠ r + 1 + 1 := by omega
  have ne2 : r + 1 + 1 ≠ r := by omega
  have ne3 : r ≠ r + 1 + 1 + 1 := by omega
  have ne4 : r + 1 + 1 + 1 ≠ r := by omega
  go_wp2_with fail
  go_region_held3 (fun w' => w'.cell? ⟨r, 0, none⟩ = some (.bool true) ∧ w'.cell? ⟨r + 1, 0, none⟩ = some (.bool false))
    (go_keep)
    (first
      | (go_at_call 66
         (with_reducible refine (signed_any _ _ _ _ _ _ hrest hx4).mono ?_)
         rintro e w9 ⟨A9, n9, c9, xs9, rfl, hs9, hx9, hv9, hb9⟩
         have H9 := Lib.hid hv9
         clear hv9
         have hq9 := hs8.on hb9
         have b0'' := b0'.below hb9 (by omega)
         have b1'' := b1'.below hb9 (by omega)
         have b2'' := b2'.below hb9 (by omega)
         have b3'' := b3'.below hb9 (by omega)
         have j0' := b0''.c0
         have j1' := b1''.c0
         have m0 := b2''.c0
         have m1 := b2''.c1
         have m2 := b2''.f 0
         have m3 := b2''.f 1
         have m4 := b3''.c0
         have m5 := b3''.c1
         have m6 := b3''.f 0
         have m7 := b3''.f 1)
      | (go_at_call 66
         (with_reducible refine (signed_any _ _ _ _ _ _ hs3.drew hx3).mono ?_)
         rintro e w8 ⟨A8, n8, c8, xs8, rfl, hs8, hx8, hv8, hb8d⟩
         have hb8 := below_undrew hb8d
         clear hb8d
         have H8 := Lib.hid hv8
         clear hv8
         have hz8 : r + 1 + 1 + 1 < w8.heap.size := by have := hb8.size; omega
         have hrest := hs4.on hb8
         have b0' := b0.below hb8 (by omega)
         have b1' := b1.below hb8 (by omega)
         have b2' := b2.below hb8 (by omega)
         have b3' := b3.below hb8 (by omega)
         have j0 := b0'.c0
         have j1 := b1'.c0))
  go_wp2
  refine bodyPost_ret (v := .tuple #[.agg #[.bool (decide (sg true (val xs3) < 0)), .slice A8 n8 c8], .agg #[.bool (decide (sg false (val xs4) < 0)), .slice A9 n9 c9], .int .i64 0]) ?_ rfl
    ⟨A8, n8, c8, xs8, A9, n9, c9, xs9, by rw [Hv3.out, Hv4.out], hq9.ret2 b2'' b3'' (by omega) _ _ _ _, hx8, by rw [H8.out, Hv3.out], hs9.ret2 b2'' b3'' (by omega) _ _ _ _, hx9, by rw [H9.out, Hv4.out], ?_⟩
  · simp [results, Try.results31, go_sem, m0, m1, m4, m5]
  · rw [HR.out]; exact below_ret (below_ret (below_chain (below_chain Hb.out (by omega) hb8) (by omega) hb9) (show r ≤ r + 1 + 1 by omega) _ _) (show r ≤ r + 1 + 1 + 1 by omega) _ _

set_option maxHeartbeats 2000000 in
theorem divMod_ft1 (A A' : Option Addr) (n c n' c' : Nat) (xs ys : List Nat) (w : World) (h : Sl w w.heap.size A n c xs) (h' : Sl w w.heap.size A' n' c' ys)
    (hv : vld false xs = true) (hv' : vld true ys = true) (h0 : ys ≠ []) (hd : DivSpec xs ys) (hk : 0 < val xs % val ys) :
    Calls Try.prog 31 #[.agg #[.bool false, .slice A n c], .agg #[.bool true, .slice A' n' c']] w (RetI2E (sg true (val xs / val ys + 1 : Nat)) (sg true (val ys - val xs % val ys : Nat)) 0 w) := by
  have Hg := Lib.hid (And.intro (vld_true hv) (vld_true hv'))
  have hn0 : 0 < n' := by
    have := h'.len
    rcases Nat.eq_zero_or_pos n' with e | e
    · rw [e] at this; exact absurd (List.eq_nil_of_length_eq_zero this) h0
    · exact e
  have Hpos := Lib.hid (val_pos Hg.out.2.2.1 h0)
  have Hk := Lib.hid hk
  clear hk h0
  have i4 : ((n' : Int) == 0) = false := by rw [beq_eq_false_iff_ne]; omega
  go_enter Try.func31, Try.ntmps31
  go_wp2_with fail
  generalize hW : World.alloc (World.alloc (World.alloc (World.alloc w _) _) _) _ = W
  obtain ⟨hb, hz, b0, b1, b2, b3⟩ := div_boxes false true A A' n c n' c' w W hW
  have hs := h.on hb
  have hs' := h'.on hb
  clear hW
  refine (valid_any _ _ _ _ _ xs _ hs (Nat.le_refl _)).mono ?_
  rintro e w1 ⟨rfl, hb1⟩
  have hz1 : w.heap.size + 1 + 1 + 1 < w1.heap.size := by have := hb1.size; omega
  have b0 := b0.below hb1 (by omega)
  have b1 := b1.below hb1 (by omega)
  have b2 := b2.below hb1 (by omega)
  have b3 := b3.below hb1 (by omega)
  have hs := hs.on hb1
  have hs' := hs'.on hb1
  have q0 := b1.c0
  have q1 := b1.c1
  go_wp2_with fail
  refine (valid_any _ _ _ _ _ ys _ hs' (Nat.le_refl _)).mono ?_
  rintro e w2 ⟨rfl, hb2⟩
  clear q0 q1
  have hz2 : w.heap.size + 1 + 1 + 1 < w2.heap.size := by have := hb2.size; omega
  have b0 := b0.below hb2 (by omega)
  have b1 := b1.below hb2 (by omega)
  have b2 := b2.below hb2 (by omega)
  have b3 := b3.below hb2 (by omega)
  have hs := hs.on hb2
  have hs' := hs'.on hb2
  have q0 := b0.c1
  have q1 := b1.c1
  go_wp2_with fail
  refine (hd _ _ _ _ _ _ _ hs hs').mono ?_
  rintro e w3 ⟨A3, n3, c3, xs3, A4, n4, c4, xs4, rfl, hs3, hx3, hv3, hs4, hx4, hv4, hb3⟩
  clear q0 q1
  have hz3 : w.heap.size + 1 + 1 + 1 < w3.heap.size := by have := hb3.size; omega
  have b0 := b0.below hb3 (by omega)
  have b1 := b1.below hb3 (by omega)
  have b2 := b2.below hb3 (by omega)
  have b3 := b3.below hb3 (by omega)
  have hs := hs.on hb3
  have hs' := hs'.on hb3
  have k0 := b0.c0
  have k1 := b1.c0
  have k2 := b1.c1
  have hl4 := hs4.len
  have Hb := Lib.hid (below_chain (below_chain (below_chain hb (by omega) hb1) (by omega) hb2) (by omega) hb3)
  have Hv3 := Lib.hid hv3
  have Hv4 := Lib.hid hv4
  have hn4 : 0 < n4 := by
    rcases Nat.eq_zero_or_pos n4 with e | e
    · rw [e] at hl4
      have := List.eq_nil_of_length_eq_zero hl4
      rw [this] at hv4
      have := Hk.out
      simp only [val] at hv4
      omega
    · exact e
  have hmle : val xs4 ≤ val ys := by rw [hv4]; exact Nat.le_of_lt (Nat.mod_lt _ Hpos.out)
  have Hmle := Lib.hid hmle
  clear hmle
  have hn3 : n3 ≤ 1000000 := by
    have e1 : val xs3 < BIG := by
      rw [hv3]
      exact Nat.lt_of_le_of_lt (Nat.div_le_self _ _) ((big_iff h.ok Hg.out.1.2.1).2 Hg.out.1.1)
    have e2 := (big_iff hs3.ok hx3).1 e1
    have e3 := hs3.len
    omega
  clear hv3 hv4 hl4
  generalize hr : w.heap.size = r at *
  clear hb
  have HR := Lib.hid hr
  clear hr
  have ne1 : r ≠ r + 1 + 1 := by omega
  have ne2 : r + 1 + 1 ≠ r := by omega
  have ne3 : r ≠ r + 1 + 1 + 1 := by omega
  have ne4 : r + 1 + 1 + 1 ≠ r := by omega
  go_wp2_with fail
  go_region_held3 (fun w' => w'.cell? ⟨r + 1, 1, none⟩ = some (.slice A' n' c'))
    (go_keep)
    (first
      | (go_at_call 65
         (with_reducible refine (subMag_any _ _ _ _ _ _ _ _ _ hsy6 hsr6 hx4 Hmle.out).mono ?_)
         rintro e w7 ⟨A7, n7, c7, xs7, rfl, hs7, hx7, hv7, hb7⟩
         have H7 := Lib.hid hv7
         clear hv7
         have hz7 : r + 1 + 1 + 1 < w7.heap.size := by have := hb7.size; omega
         have hsq7 := hs6.on hb7
         have b0f := b0e.below hb7 (by omega)
         have b1f := b1e.below hb7 (by omega)
         have b2f := b2e.below hb7 (by omega)
         have b3f := b3e.below hb7 (by omega)
         have k4 := b1f.c1)
      | (go_at_call 64
         (with_reducible refine (addMag_any _ _ _ _ _ _ _ _ _ hsq5 hs5 hn3 hn5).mono ?_)
         rintro e w6 ⟨A6, n6, c6, xs6, rfl, hs6, hx6, hv6, hb6⟩
         have H6 := Lib.hid hv6
         clear hv6
         have hz6 : r + 1 + 1 + 1 < w6.heap.size := by have := hb6.size; omega
         have hsr6 := hsr5.on hb6
         have hsy6 := hsy5.on hb6
         have b0e := b0d.below hb6 (by omega)
         have b1e := b1d.below hb6 (by omega)
         have b2e := b2d.below hb6 (by omega)
         have b3e := b3d.below hb6 (by omega)
         have k4 := b1e.c1)
      | (go_at_call 50
         refine (ofWord_any 1 _ (by omega) (by omega)).mono ?_
         rintro e w5 ⟨A5, n5, c5, xs5, rfl, hs5, hx5, hv5, hb5d⟩
         have hb5 := below_undrew hb5d
         clear hb5d
         have hn5 : n5 ≤ 1000000 := by
           have e1 := length_le hx5 (n := 1) (by rw [hv5]; decide)
           have e2 := hs5.len
           omega
         have H5 := Lib.hid hv5
         clear hv5
         have hz5 : r + 1 + 1 + 1 < w5.heap.size := by have := hb5.size; omega
         have hsq5 := hs3.on hb5
         have hsr5 := hs4.on hb5
         have hsy5 := hs'.on hb5
         have b0d := b0.below hb5 (by omega)
         have b1d := b1.below hb5 (by omega)
         have b2d := b2.below hb5 (by omega)
         have b3d := b3.below hb5 (by omega)
         have k4 := b1d.c1))
  have k0 := b0f.c0
  have k1 := b1f.c0
  go_wp2_with fail
  go_region_held3 (fun w' => w'.cell? ⟨r, 0, none⟩ = some (.bool false) ∧ w'.cell? ⟨r + 1, 0, none⟩ = some (.bool true))
    (go_keep)
    (first
      | (go_at_call 66
         (with_reducible refine (signed_any _ _ _ _ _ _ hrest hx7).mono ?_)
         rintro e w9 ⟨A9, n9, c9, xs9, rfl, hs9, hx9, hv9, hb9⟩
         have H9 := Lib.hid hv9
         clear hv9
         have hq9 := hs8.on hb9
         have b0'' := b0'.below hb9 (by omega)
         have b1'' := b1'.below hb9 (by omega)
         have b2'' := b2'.below hb9 (by omega)
         have b3'' := b3'.below hb9 (by omega)
         have j0' := b0''.c0
         have j1' := b1''.c0
         have m0 := b2''.c0
         have m1 := b2''.c1
         have m2 := b2''.f 0
         have m3 := b2''.f 1
         have m4 := b3''.c0
         have m5 := b3''.c1
         have m6 := b3''.f 0
         have m7 := b3''.f 1)
      | (go_at_call 66
         (with_reducible refine (signed_any _ _ _ _ _ _ hsq7.drew hx6).mono ?_)
         rintro e w8 ⟨A8, n8, c8, xs8, rfl, hs8, hx8, hv8, hb8d⟩
         have hb8 := below_undrew hb8d
         clear hb8d
         have H8 := Lib.hid hv8
         clear hv8
         have hz8 : r + 1 + 1 + 1 < w8.heap.size := by have := hb8.size; omega
         have hrest := hs7.on hb8
         have b0' := b0f.below hb8 (by omega)
         have b1' := b1f.below hb8 (by omega)
         have b2' := b2f.below hb8 (by omega)
         have b3' := b3f.below hb8 (by omega)
         have j0 := b0'.c0
         have j1 := b1'.c0))
  go_wp2
  refine bodyPost_ret (v := .tuple #[.agg #[.bool (decide (sg true (val xs6) < 0)), .slice A8 n8 c8], .agg #[.bool (decide (sg true (val xs7) < 0)), .slice A9 n9 c9], .int .i64 0]) ?_ rfl
    ⟨A8, n8, c8, xs8, A9, n9, c9, xs9, by rw [H6.out, Hv3.out, H5.out, H7.out, Hv4.out]; rfl, hq9.ret2 b2'' b3'' (by omega) _ _ _ _, hx8, by rw [H8.out, H6.out, Hv3.out, H5.out]; rfl, hs9.ret2 b2'' b3'' (by omega) _ _ _ _, hx9, by rw [H9.out, H7.out, Hv4.out], ?_⟩
  · simp [results, Try.results31, go_sem, m0, m1, m4, m5]
  · rw [HR.out]; exact below_ret (below_ret (below_chain (below_chain (below_chain (below_chain (below_chain Hb.out (by omega) hb5) (by omega) hb6) (by omega) hb7) (by omega) hb8) (by omega) hb9) (show r ≤ r + 1 + 1 by omega) _ _) (show r ≤ r + 1 + 1 + 1 by omega) _ _

set_option maxHeartbeats 2000000 in
theorem divMod_tf1 (A A' : Option Addr) (n c n' c' : Nat) (xs ys : List Nat) (w : World) (h : Sl w w.heap.size A n c xs) (h' : Sl w w.heap.size A' n' c' ys)
    (hv : vld true xs = true) (hv' : vld false ys = true) (h0 : ys ≠ []) (hd : DivSpec xs ys) (hk : 0 < val xs % val ys) :
    Calls Try.prog 31 #[.agg #[.bool true, .slice A n c], .agg #[.bool false, .slice A' n' c']] w (RetI2E (sg true (val xs / val ys + 1 : Nat)) (sg false (val ys - val xs % val ys : Nat)) 0 w) := by
  have Hg := Lib.hid (And.intro (vld_true hv) (vld_true hv'))
  have hn0 : 0 < n' := by
    have := h'.len
    rcases Nat.eq_zero_or_pos n' with e | e
    · rw [e] at this; exact absurd (List.eq_nil_of_length_eq_zero this) h0
    · exact e
  have Hpos := Lib.hid (val_pos Hg.out.2.2.1 h0)
  have Hk := Lib.hid hk
  clear hk h0
  have i4 : ((n' : Int) == 0) = false := by rw [beq_eq_false_iff_ne]; omega
  go_enter Try.func31, Try.ntmps31
  go_wp2_with fail
  generalize hW : World.alloc (World.alloc (World.alloc (World.alloc w _) _) _) _ = W
  obtain ⟨hb, hz, b0, b1, b2, b3⟩ := div_boxes true false A A' n c n' c' w W hW
  have hs := h.on hb
  have hs' := h'.on hb
  clear hW
  refine (valid_any _ _ _ _ _ xs _ hs (Nat.le_refl _)).mono ?_
  rintro e w1 ⟨rfl, hb1⟩
  have hz1 : w.heap.size + 1 + 1 + 1 < w1.heap.size := by have := hb1.size; omega
  have b0 := b0.below hb1 (by omega)
  have b1 := b1.below hb1 (by omega)
  have b2 := b2.below hb1 (by omega)
  have b3 := b3.below hb1 (by omega)
  have hs := hs.on hb1
  have hs' := hs'.on hb1
  have q0 := b1.c0
  have q1 := b1.c1
  go_wp2_with fail
  refine (valid_any _ _ _ _ _ ys _ hs' (Nat.le_refl _)).mono ?_
  rintro e w2 ⟨rfl, hb2⟩
  clear q0 q1
  have hz2 : w.heap.size + 1 + 1 + 1 < w2.heap.size := by have := hb2.size; omega
  have b0 := b0.below hb2 (by omega)
  have b1 := b1.below hb2 (by omega)
  have b2 := b2.below hb2 (by omega)
  have b3 := b3.below hb2 (by omega)
  have hs := hs.on hb2
  have hs' := hs'.on hb2
  have q0 := b0.c1
  have q1 := b1.c1
  go_wp2_with fail
  refine (hd _ _ _ _ _ _ _ hs hs').mono ?_
  rintro e w3 ⟨A3, n3, c3, xs3, A4, n4, c4, xs4, rfl, hs3, hx3, hv3, hs4, hx4, hv4, hb3⟩
  clear q0 q1
  have hz3 : w.heap.size + 1 + 1 + 1 < w3.heap.size := by have := hb3.size; omega
  have b0 := b0.below hb3 (by omega)
  have b1 := b1.below hb3 (by omega)
  have b2 := b2.below hb3 (by omega)
  have b3 := b3.below hb3 (by omega)
  have hs := hs.on hb3
  have hs' := hs'.on hb3
  have k0 := b0.c0
  have k1 := b1.c0
  have k2 := b1.c1
  have hl4 := hs4.len
  have Hb := Lib.hid (below_chain (below_chain (below_chain hb (by omega) hb1) (by omega) hb2) (by omega) hb3)
  have Hv3 := Lib.hid hv3
  have Hv4 := Lib.hid hv4
  have hn4 : 0 < n4 := by
    rcases Nat.eq_zero_or_pos n4 with e | e
    · rw [e] at hl4
      have := List.eq_nil_of_length_eq_zero hl4
      rw [this] at hv4
      have := Hk.out
      simp only [val] at hv4
      omega
    · exact e
  have hmle : val xs4 ≤ val ys := by rw [hv4]; exact Nat.le_of_lt (Nat.mod_lt _ Hpos.out)
  have Hmle := Lib.hid hmle
  clear hmle
  have hn3 : n3 ≤ 1000000 := by
    have e1 : val xs3 < BIG := by
      rw [hv3]
      exact Nat.lt_of_le_of_lt (Nat.div_le_self _ _) ((big_iff h.ok Hg.out.1.2.1).2 Hg.out.1.1)
    have e2 := (big_iff hs3.ok hx3).1 e1
    have e3 := hs3.len
    omega
  clear hv3 hv4 hl4
  generalize hr : w.heap.size = r at *
  clear hb
  have HR := Lib.hid hr
  clear hr
  have ne1 : r ≠ r + 1 + 1 := by omega
  have ne2 : r + 1 + 1 ≠ r := by omega
  have ne3 : r ≠ r + 1 + 1 + 1 := by omega
  have ne4 : r + 1 + 1 + 1 ≠ r := by omega
  go_wp2_with fail
  go_region_held3 (fun w' => w'.cell? ⟨r + 1, 1, none⟩ = some (.slice A' n' c'))
    (go_keep)
    (first
      | (go_at_call 65
         (with_reducible refine (subMag_any _ _ _ _ _ _ _ _ _ hsy6 hsr6 hx4 Hmle.out).mono ?_)
         rintro e w7 ⟨A7, n7, c7, xs7, rfl, hs7, hx7, hv7, hb7⟩
         have H7 := Lib.hid hv7
         clear hv7
         have hz7 : r + 1 + 1 + 1 < w7.heap.size := by have := hb7.size; omega
         have hsq7 := hs6.on hb7
         have b0f := b0e.below hb7 (by omega)
         have b1f := b1e.below hb7 (by omega)
         have b2f := b2e.below hb7 (by omega)
         have b3f := b3e.below hb7 (by omega)
         have k4 := b1f.c1)
      | (go_at_call 64
         (with_reducible refine (addMag_any _ _ _ _ _ _ _ _ _ hsq5 hs5 hn3 hn5).mono ?_)
         rintro e w6 ⟨A6, n6, c6, xs6, rfl, hs6, hx6, hv6, hb6⟩
         have H6 := Lib.hid hv6
         clear hv6
         have hz6 : r + 1 + 1 + 1 < w6.heap.size := by have := hb6.size; omega
         have hsr6 := hsr5.on hb6
         have hsy6 := hsy5.on hb6
         have b0e := b0d.below hb6 (by omega)
         have b1e := b1d.below hb6 (by omega)
         have b2e := b2d.below hb6 (by omega)
         have b3e := b3d.below hb6 (by omega)
         have k4 := b1e.c1)
      | (go_at_call 50
         refine (ofWord_any 1 _ (by omega) (by omega)).mono ?_
         rintro e w5 ⟨A5, n5, c5, xs5, rfl, hs5, hx5, hv5, hb5d⟩
         have hb5 := below_undrew hb5d
         clear hb5d
         have hn5 : n5 ≤ 1000000 := by
           have e1 := length_le hx5 (n := 1) (by rw [hv5]; decide)
           have e2 := hs5.len
           omega
         have H5 := Lib.hid hv5
         clear hv5
         have hz5 : r + 1 + 1 + 1 < w5.heap.size := by have := hb5.size; omega
         have hsq5 := hs3.on hb5
         have hsr5 := hs4.on hb5
         have hsy5 := hs'.on hb5
         have b0d := b0.below hb5 (by omega)
         have b1d := b1.below hb5 (by omega)
         have b2d := b2.below hb5 (by omega)
         have b3d := b3.below hb5 (by omega)
         have k4 := b1d.c1))
  have k0 := b0f.c0
  have k1 := b1f.c0
  go_wp2_with fail
  go_region_held3 (fun w' => w'.cell? ⟨r, 0, none⟩ = some (.bool true) ∧ w'.cell? ⟨r + 1, 0, none⟩ = some (.bool false))
    (go_keep)
    (first
      | (go_at_call 66
         (with_reducible refine (signed_any _ _ _ _ _ _ hrest hx7).mono ?_)
         rintro e w9 ⟨A9, n9, c9, xs9, rfl, hs9, hx9, hv9, hb9⟩
         have H9 := Lib.hid hv9
         clear hv9
         have hq9 := hs8.on hb9
         have b0'' := b0'.below hb9 (by omega)
         have b1'' := b1'.below hb9 (by omega)
         have b2'' := b2'.below hb9 (by omega)
         have b3'' := b3'.below hb9 (by omega)
         have j0' := b0''.c0
         have j1' := b1''.c0
         have m0 := b2''.c0
         have m1 := b2''.c1
         have m2 := b2''.f 0
         have m3 := b2''.f 1
         have m4 := b3''.c0
         have m5 := b3''.c1
         have m6 := b3''.f 0
         have m7 := b3''.f 1)
      | (go_at_call 66
         (with_reducible refine (signed_any _ _ _ _ _ _ hsq7.drew hx6).mono ?_)
         rintro e w8 ⟨A8, n8, c8, xs8, rfl, hs8, hx8, hv8, hb8d⟩
         have hb8 := below_undrew hb8d
         clear hb8d
         have H8 := Lib.hid hv8
         clear hv8
         have hz8 : r + 1 + 1 + 1 < w8.heap.size := by have := hb8.size; omega
         have hrest := hs7.on hb8
         have b0' := b0f.below hb8 (by omega)
         have b1' := b1f.below hb8 (by omega)
         have b2' := b2f.below hb8 (by omega)
         have b3' := b3f.below hb8 (by omega)
         have j0 := b0'.c0
         have j1 := b1'.c0))
  go_wp2
  refine bodyPost_ret (v := .tuple #[.agg #[.bool (decide (sg true (val xs6) < 0)), .slice A8 n8 c8], .agg #[.bool (decide (sg false (val xs7) < 0)), .slice A9 n9 c9], .int .i64 0]) ?_ rfl
    ⟨A8, n8, c8, xs8, A9, n9, c9, xs9, by rw [H6.out, Hv3.out, H5.out, H7.out, Hv4.out]; rfl, hq9.ret2 b2'' b3'' (by omega) _ _ _ _, hx8, by rw [H8.out, H6.out, Hv3.out, H5.out]; rfl, hs9.ret2 b2'' b3'' (by omega) _ _ _ _, hx9, by rw [H9.out, H7.out, Hv4.out], ?_⟩
  · simp [results, Try.results31, go_sem, m0, m1, m4, m5]
  · rw [HR.out]; exact below_ret (below_ret (below_chain (below_chain (below_chain (below_chain (below_chain Hb.out (by omega) hb5) (by omega) hb6) (by omega) hb7) (by omega) hb8) (by omega) hb9) (show r ≤ r + 1 + 1 by omega) _ _) (show r ≤ r + 1 + 1 + 1 by omega) _ _

theorem divMod_good (neg neg' : Bool) (A A' : Option Addr) (n c n' c' : Nat) (xs ys : List Nat) (w : World) (h : Sl w w.heap.size A n c xs) (h' : Sl w w.heap.size A' n' c' ys)
    (hv : vld neg xs = true) (hv' : vld neg' ys = true) (h0 : ys ≠ []) (hd : DivSpec xs ys) :
    Calls Try.prog 31 #[.agg #[.bool neg, .slice A n c], .agg #[.bool neg', .slice A' n' c']] w (RetI2E (dq neg neg' (val xs) (val ys)) (dr neg neg' (val xs) (val ys)) 0 w) := by
  cases neg <;> cases neg'
  · exact divMod_ff A A' n c n' c' xs ys w h h' hv hv' h0 hd
  · rcases Nat.eq_zero_or_pos (val xs % val ys) with hk | hk
    · rw [dq, dr, if_neg (by omega), if_neg (by omega)]
      exact divMod_ft A A' n c n' c' xs ys w h h' hv hv' h0 hd hk
    · rw [dq, dr, if_pos ⟨rfl, hk⟩, if_pos ⟨rfl, hk⟩]
      exact divMod_ft1 A A' n c n' c' xs ys w h h' hv hv' h0 hd hk
  · rcases Nat.eq_zero_or_pos (val xs % val ys) with hk | hk
    · rw [dq, dr, if_neg (by omega), if_neg (by omega)]
      exact divMod_tf A A' n c n' c' xs ys w h h' hv hv' h0 hd hk
    · rw [dq, dr, if_pos ⟨rfl, hk⟩, if_pos ⟨rfl, hk⟩]
      exact divMod_tf1 A A' n c n' c' xs ys w h h' hv hv' h0 hd hk
  · exact divMod_tt A A' n c n' c' xs ys w h h' hv hv' h0 hd

end Go.Proofs.Ytalgcppogjpilaa
