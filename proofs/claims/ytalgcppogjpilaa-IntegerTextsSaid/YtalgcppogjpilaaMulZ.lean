/-
  The walks of Mul, for any two integers.
-/
import Derived.Test.YtalgcppogjpilaaMul
namespace Go.Proofs.Ytalgcppogjpilaa
open Go.RowKit

theorem sg_mul (neg neg' : Bool) (a b : Nat) : sg (neg != neg') (a * b) = sg neg a * sg neg' b := by
  cases neg <;> cases neg' <;> simp [sg, Int.mul_neg, Int.neg_mul]

set_option maxHeartbeats 1000000 in
theorem mul_bad1 (neg neg' : Bool) (A A' : Option Addr) (n c n' c' : Nat) (xs : List Nat) (w : World) (h : Sl w w.heap.size A n c xs) (hv : vld neg xs = false) :
    Calls Try.prog 29 #[.agg #[.bool neg, .slice A n c], .agg #[.bool neg', .slice A' n' c']] w (RetIE 0 1 w) := by
  go_enter Try.func29, Try.ntmps29
  go_wp2_with fail
  generalize hW : World.alloc (World.alloc (World.alloc w _) _) _ = W
  obtain ⟨hb, hz, b0, b1, b2⟩ := sum_boxes neg neg' A A' n c n' c' w W hW
  have hs := h.on hb
  clear hW
  refine (valid_any _ _ _ _ _ xs _ hs (Nat.le_refl _)).mono ?_
  rintro e w1 ⟨rfl, hb1⟩
  have b2' := b2.below hb1 (by omega)
  have k3 := b2'.c0
  have k4 := b2'.c1
  have k5 := b2'.f 0
  have k6 := b2'.f 1
  generalize hr : w.heap.size = r at *
  have HRW := Lib.hid (And.intro hb hr)
  clear hb hr
  go_wp2
  exact bodyPost_ret (v := .tuple #[.agg #[.bool false, .slice none 0 0], .int .i64 1]) (by simp [results, Try.results29, go_sem, k3, k4]) rfl
    ⟨none, 0, 0, [], rfl, Sl.nil _ _, Nz.nil, rfl, by rw [HRW.out.2]; exact below_ret (below_chain HRW.out.1 (by omega) hb1) (show r ≤ r + 1 + 1 by omega) _ _⟩

set_option maxHeartbeats 1000000 in
theorem mul_bad2 (neg neg' : Bool) (A A' : Option Addr) (n c n' c' : Nat) (xs ys : List Nat) (w : World) (h : Sl w w.heap.size A n c xs) (h' : Sl w w.heap.size A' n' c' ys) (hv : vld neg xs = true) (hv' : vld neg' ys = false) :
    Calls Try.prog 29 #[.agg #[.bool neg, .slice A n c], .agg #[.bool neg', .slice A' n' c']] w (RetIE 0 1 w) := by
  go_enter Try.func29, Try.ntmps29
  go_wp2_with fail
  generalize hW : World.alloc (World.alloc (World.alloc w _) _) _ = W
  obtain ⟨hb, hz, b0, b1, b2⟩ := sum_boxes neg neg' A A' n c n' c' w W hW
  have hs := h.on hb
  have hs' := h'.on hb
  clear hW
  refine (valid_any _ _ _ _ _ xs _ hs (Nat.le_refl _)).mono ?_
  rintro e w1 ⟨rfl, hb1⟩
  have hz1 : w.heap.size + 1 + 1 < w1.heap.size := by have := hb1.size; omega
  have b1' := b1.below hb1 (by omega)
  have b2' := b2.below hb1 (by omega)
  have q0 := b1'.c0
  have q1 := b1'.c1
  go_wp2_with fail
  refine (valid_any _ _ _ _ _ ys _ (hs'.on hb1) (Nat.le_refl _)).mono ?_
  rintro e w2 ⟨rfl, hb2⟩
  clear q0 q1
  have b2'' := b2'.below hb2 (by omega)
  have k3 := b2''.c0
  have k4 := b2''.c1
  have k5 := b2''.f 0
  have k6 := b2''.f 1
  generalize hr : w.heap.size = r at *
  have HRW := Lib.hid (And.intro hb hr)
  clear hb hr
  go_wp2
  exact bodyPost_ret (v := .tuple #[.agg #[.bool false, .slice none 0 0], .int .i64 1]) (by simp [results, Try.results29, go_sem, k3, k4]) rfl
    ⟨none, 0, 0, [], rfl, Sl.nil _ _, Nz.nil, rfl, by rw [HRW.out.2]; exact below_ret (below_chain (below_chain HRW.out.1 (by omega) hb1) (by omega) hb2) (show r ≤ r + 1 + 1 by omega) _ _⟩

set_option maxHeartbeats 1000000 in
theorem mul_good_tt (A A' : Option Addr) (n c n' c' : Nat) (xs ys : List Nat) (w : World) (h : Sl w w.heap.size A n c xs) (h' : Sl w w.heap.size A' n' c' ys) (hv : vld true xs = true) (hv' : vld true ys = true)  (p : Nat) (hp : val xs * val ys = p) :
    Calls Try.prog 29 #[.agg #[.bool true, .slice A n c], .agg #[.bool true, .slice A' n' c']] w (RetIE (fitZ (sg false p)) (fitE (sg false p)) w) := by
  have Hp := Lib.hid hp
  clear hp
  have Hg := Lib.hid (And.intro (vld_true hv) (vld_true hv'))
  have hlx := h.len
  have hly := h'.len
  have hn : n ≤ 1000000 := by have := Hg.out.1.1; omega
  have hn' : n' ≤ 1000000 := by have := Hg.out.2.1; omega
  clear hlx hly
  go_enter Try.func29, Try.ntmps29
  go_wp2_with fail
  generalize hW : World.alloc (World.alloc (World.alloc w _) _) _ = W
  obtain ⟨hb, hz, b0, b1, b2⟩ := sum_boxes true true A A' n c n' c' w W hW
  have hs := h.on hb
  have hs' := h'.on hb
  clear hW
  refine (valid_any _ _ _ _ _ xs _ hs (Nat.le_refl _)).mono ?_
  rintro e w1 ⟨rfl, hb1⟩
  have hz1 : w.heap.size + 1 + 1 < w1.heap.size := by have := hb1.size; omega
  have b0' := b0.below hb1 (by omega)
  have b1' := b1.below hb1 (by omega)
  have b2' := b2.below hb1 (by omega)
  have hs1 := hs.on hb1
  have hs1' := hs'.on hb1
  have q0 := b1'.c0
  have q1 := b1'.c1
  go_wp2_with fail
  refine (valid_any _ _ _ _ _ ys _ hs1' (Nat.le_refl _)).mono ?_
  rintro e w2 ⟨rfl, hb2⟩
  clear q0 q1
  have hz2 : w.heap.size + 1 + 1 < w2.heap.size := by have := hb2.size; omega
  have b0'' := b0'.below hb2 (by omega)
  have b1'' := b1'.below hb2 (by omega)
  have b2'' := b2'.below hb2 (by omega)
  have hs2 := hs1.on hb2
  have hs2' := hs1'.on hb2
  have k0 := b0''.c0
  have k1 := b0''.c1
  have k2 := b1''.c0
  have k3 := b1''.c1
  generalize hr : w.heap.size = r at *
  have HRW := Lib.hid (And.intro hb hr)
  clear hb hr
  have ne1 : r ≠ r + 1 + 1 := by omega
  have ne2 : r + 1 + 1 ≠ r := by omega
  go_wp2_with fail
  go_region_held3 (fun w' => w'.cell? ⟨r, 0, none⟩ = some (.bool true) ∧ w'.cell? ⟨r + 1, 0, none⟩ = some (.bool true) ∧ w'.cell? ⟨r, 1, none⟩ = some (.slice A n c) ∧ w'.cell? ⟨r + 1, 1, none⟩ = some (.slice A' n' c'))
    (go_keep)
    (first
      | (go_at_call 60
         have L := limited_any false A1 n1 c1 xs1 w5 hs5 hx5
         rw [hv5] at L
         refine L.mono ?_
         clear L
         rintro e w6 ⟨A2, n2, c2, xs2, rfl, hs6, hx6, hv6, hb6⟩
         have f0 := e0.below hb6 (by omega)
         have f1 := e1.below hb6 (by omega)
         have f2 := e2.below hb6 (by omega)
         have j0' := f0.c0
         have j1' := f0.c1
         have j2' := f1.c1
         have j7' := f1.c0
         have j3' := f2.c0
         have j4' := f2.c1
         have j5' := f2.f 0
         have j6' := f2.f 1
         have H2 := Lib.hid (And.intro hv6 hx6)
         clear hv5 hv6 hx6)
      | (go_at_call 61
         refine (mulMag_any _ _ _ _ _ _ _ _ _ hs2.drew hs2'.drew hn hn').mono ?_
         rintro e w5 ⟨A1, n1, c1, xs1, rfl, hs5, hx5, hv5, hbd⟩
         rw [Hp.out] at hv5
         have hb5 := below_undrew hbd
         clear hbd
         have e0 := b0''.below hb5 (by omega)
         have e1 := b1''.below hb5 (by omega)
         have e2 := b2''.below hb5 (by omega)
         have hz5 := e2.lt
         have j0 := e0.c0
         have j1 := e0.c1
         have j2 := e1.c1
         have j7 := e1.c0))
  go_wp2
  exact bodyPost_ret (v := .tuple #[.agg #[.bool (decide (fitZ (sg false p) < 0)), .slice A2 n2 c2], .int .i64 (fitE (sg false p))])
    (by simp [results, Try.results29, go_sem, j3', j4']) rfl
    ⟨A2, n2, c2, xs2, rfl, hs6.ret f2 _ _, H2.out.2, H2.out.1, by rw [HRW.out.2]; exact below_ret (below_chain (below_chain (below_chain (below_chain HRW.out.1 (by omega) hb1) (by omega) hb2) (by omega) hb5) (by omega) hb6) (show r ≤ r + 1 + 1 by omega) _ _⟩

set_option maxHeartbeats 1000000 in
theorem mul_good_tf (A A' : Option Addr) (n c n' c' : Nat) (xs ys : List Nat) (w : World) (h : Sl w w.heap.size A n c xs) (h' : Sl w w.heap.size A' n' c' ys) (hv : vld true xs = true) (hv' : vld false ys = true)  (p : Nat) (hp : val xs * val ys = p) :
    Calls Try.prog 29 #[.agg #[.bool true, .slice A n c], .agg #[.bool false, .slice A' n' c']] w (RetIE (fitZ (sg true p)) (fitE (sg true p)) w) := by
  have Hp := Lib.hid hp
  clear hp
  have Hg := Lib.hid (And.intro (vld_true hv) (vld_true hv'))
  have hlx := h.len
  have hly := h'.len
  have hn : n ≤ 1000000 := by have := Hg.out.1.1; omega
  have hn' : n' ≤ 1000000 := by have := Hg.out.2.1; omega
  clear hlx hly
  go_enter Try.func29, Try.ntmps29
  go_wp2_with fail
  generalize hW : World.alloc (World.alloc (World.alloc w _) _) _ = W
  obtain ⟨hb, hz, b0, b1, b2⟩ := sum_boxes true false A A' n c n' c' w W hW
  have hs := h.on hb
  have hs' := h'.on hb
  clear hW
  refine (valid_any _ _ _ _ _ xs _ hs (Nat.le_refl _)).mono ?_
  rintro e w1 ⟨rfl, hb1⟩
  have hz1 : w.heap.size + 1 + 1 < w1.heap.size := by have := hb1.size; omega
  have b0' := b0.below hb1 (by omega)
  have b1' := b1.below hb1 (by omega)
  have b2' := b2.below hb1 (by omega)
  have hs1 := hs.on hb1
  have hs1' := hs'.on hb1
  have q0 := b1'.c0
  have q1 := b1'.c1
  go_wp2_with fail
  refine (valid_any _ _ _ _ _ ys _ hs1' (Nat.le_refl _)).mono ?_
  rintro e w2 ⟨rfl, hb2⟩
  clear q0 q1
  have hz2 : w.heap.size + 1 + 1 < w2.heap.size := by have := hb2.size; omega
  have b0'' := b0'.below hb2 (by omega)
  have b1'' := b1'.below hb2 (by omega)
  have b2'' := b2'.below hb2 (by omega)
  have hs2 := hs1.on hb2
  have hs2' := hs1'.on hb2
  have k0 := b0''.c0
  have k1 := b0''.c1
  have k2 := b1''.c0
  have k3 := b1''.c1
  generalize hr : w.heap.size = r at *
  have HRW := Lib.hid (And.intro hb hr)
  clear hb hr
  have ne1 : r ≠ r + 1 + 1 := by omega
  have ne2 : r + 1 + 1 ≠ r := by omega
  go_wp2_with fail
  go_region_held3 (fun w' => w'.cell? ⟨r, 0, none⟩ = some (.bool true) ∧ w'.cell? ⟨r + 1, 0, none⟩ = some (.bool false) ∧ w'.cell? ⟨r, 1, none⟩ = some (.slice A n c) ∧ w'.cell? ⟨r + 1, 1, none⟩ = some (.slice A' n' c'))
    (go_keep)
    (first
      | (go_at_call 60
         have L := limited_any true A1 n1 c1 xs1 w5 hs5 hx5
         rw [hv5] at L
         refine L.mono ?_
         clear L
         rintro e w6 ⟨A2, n2, c2, xs2, rfl, hs6, hx6, hv6, hb6⟩
         have f0 := e0.below hb6 (by omega)
         have f1 := e1.below hb6 (by omega)
         have f2 := e2.below hb6 (by omega)
         have j0' := f0.c0
         have j1' := f0.c1
         have j2' := f1.c1
         have j7' := f1.c0
         have j3' := f2.c0
         have j4' := f2.c1
         have j5' := f2.f 0
         have j6' := f2.f 1
         have H2 := Lib.hid (And.intro hv6 hx6)
         clear hv5 hv6 hx6)
      | (go_at_call 61
         refine (mulMag_any _ _ _ _ _ _ _ _ _ hs2.drew hs2'.drew hn hn').mono ?_
         rintro e w5 ⟨A1, n1, c1, xs1, rfl, hs5, hx5, hv5, hbd⟩
         rw [Hp.out] at hv5
         have hb5 := below_undrew hbd
         clear hbd
         have e0 := b0''.below hb5 (by omega)
         have e1 := b1''.below hb5 (by omega)
         have e2 := b2''.below hb5 (by omega)
         have hz5 := e2.lt
         have j0 := e0.c0
         have j1 := e0.c1
         have j2 := e1.c1
         have j7 := e1.c0))
  go_wp2
  exact bodyPost_ret (v := .tuple #[.agg #[.bool (decide (fitZ (sg true p) < 0)), .slice A2 n2 c2], .int .i64 (fitE (sg true p))])
    (by simp [results, Try.results29, go_sem, j3', j4']) rfl
    ⟨A2, n2, c2, xs2, rfl, hs6.ret f2 _ _, H2.out.2, H2.out.1, by rw [HRW.out.2]; exact below_ret (below_chain (below_chain (below_chain (below_chain HRW.out.1 (by omega) hb1) (by omega) hb2) (by omega) hb5) (by omega) hb6) (show r ≤ r + 1 + 1 by omega) _ _⟩

set_option maxHeartbeats 1000000 in
theorem mul_good_ft (A A' : Option Addr) (n c n' c' : Nat) (xs ys : List Nat) (w : World) (h : Sl w w.heap.size A n c xs) (h' : Sl w w.heap.size A' n' c' ys) (hv : vld false xs = true) (hv' : vld true ys = true)  (p : Nat) (hp : val xs * val ys = p) :
    Calls Try.prog 29 #[.agg #[.bool false, .slice A n c], .agg #[.bool true, .slice A' n' c']] w (RetIE (fitZ (sg true p)) (fitE (sg true p)) w) := by
  have Hp := Lib.hid hp
  clear hp
  have Hg := Lib.hid (And.intro (vld_true hv) (vld_true hv'))
  have hlx := h.len
  have hly := h'.len
  have hn : n ≤ 1000000 := by have := Hg.out.1.1; omega
  have hn' : n' ≤ 1000000 := by have := Hg.out.2.1; omega
  clear hlx hly
  go_enter Try.func29, Try.ntmps29
  go_wp2_with fail
  generalize hW : World.alloc (World.alloc (World.alloc w _) _) _ = W
  obtain ⟨hb, hz, b0, b1, b2⟩ := sum_boxes false true A A' n c n' c' w W hW
  have hs := h.on hb
  have hs' := h'.on hb
  clear hW
  refine (valid_any _ _ _ _ _ xs _ hs (Nat.le_refl _)).mono ?_
  rintro e w1 ⟨rfl, hb1⟩
  have hz1 : w.heap.size + 1 + 1 < w1.heap.size := by have := hb1.size; omega
  have b0' := b0.below hb1 (by omega)
  have b1' := b1.below hb1 (by omega)
  have b2' := b2.below hb1 (by omega)
  have hs1 := hs.on hb1
  have hs1' := hs'.on hb1
  have q0 := b1'.c0
  have q1 := b1'.c1
  go_wp2_with fail
  refine (valid_any _ _ _ _ _ ys _ hs1' (Nat.le_refl _)).mono ?_
  rintro e w2 ⟨rfl, hb2⟩
  clear q0 q1
  have hz2 : w.heap.size + 1 + 1 < w2.heap.size := by have := hb2.size; omega
  have b0'' := b0'.below hb2 (by omega)
  have b1'' := b1'.below hb2 (by omega)
  have b2'' := b2'.below hb2 (by omega)
  have hs2 := hs1.on hb2
  have hs2' := hs1'.on hb2
  have k0 := b0''.c0
  have k1 := b0''.c1
  have k2 := b1''.c0
  have k3 := b1''.c1
  generalize hr : w.heap.size = r at *
  have HRW := Lib.hid (And.intro hb hr)
  clear hb hr
  have ne1 : r ≠ r + 1 + 1 := by omega
  have ne2 : r + 1 + 1 ≠ r := by omega
  go_wp2_with fail
  go_region_held3 (fun w' => w'.cell? ⟨r, 0, none⟩ = some (.bool false) ∧ w'.cell? ⟨r + 1, 0, none⟩ = some (.bool true) ∧ w'.cell? ⟨r, 1, none⟩ = some (.slice A n c) ∧ w'.cell? ⟨r + 1, 1, none⟩ = some (.slice A' n' c'))
    (go_keep)
    (first
      | (go_at_call 60
         have L := limited_any true A1 n1 c1 xs1 w5 hs5 hx5
         rw [hv5] at L
         refine L.mono ?_
         clear L
         rintro e w6 ⟨A2, n2, c2, xs2, rfl, hs6, hx6, hv6, hb6⟩
         have f0 := e0.below hb6 (by omega)
         have f1 := e1.below hb6 (by omega)
         have f2 := e2.below hb6 (by omega)
         have j0' := f0.c0
         have j1' := f0.c1
         have j2' := f1.c1
         have j7' := f1.c0
         have j3' := f2.c0
         have j4' := f2.c1
         have j5' := f2.f 0
         have j6' := f2.f 1
         have H2 := Lib.hid (And.intro hv6 hx6)
         clear hv5 hv6 hx6)
      | (go_at_call 61
         refine (mulMag_any _ _ _ _ _ _ _ _ _ hs2.drew hs2'.drew hn hn').mono ?_
         rintro e w5 ⟨A1, n1, c1, xs1, rfl, hs5, hx5, hv5, hbd⟩
         rw [Hp.out] at hv5
         have hb5 := below_undrew hbd
         clear hbd
         have e0 := b0''.below hb5 (by omega)
         have e1 := b1''.below hb5 (by omega)
         have e2 := b2''.below hb5 (by omega)
         have hz5 := e2.lt
         have j0 := e0.c0
         have j1 := e0.c1
         have j2 := e1.c1
         have j7 := e1.c0))
  go_wp2
  exact bodyPost_ret (v := .tuple #[.agg #[.bool (decide (fitZ (sg true p) < 0)), .slice A2 n2 c2], .int .i64 (fitE (sg true p))])
    (by simp [results, Try.results29, go_sem, j3', j4']) rfl
    ⟨A2, n2, c2, xs2, rfl, hs6.ret f2 _ _, H2.out.2, H2.out.1, by rw [HRW.out.2]; exact below_ret (below_chain (below_chain (below_chain (below_chain HRW.out.1 (by omega) hb1) (by omega) hb2) (by omega) hb5) (by omega) hb6) (show r ≤ r + 1 + 1 by omega) _ _⟩

set_option maxHeartbeats 1000000 in
theorem mul_good_ff (A A' : Option Addr) (n c n' c' : Nat) (xs ys : List Nat) (w : World) (h : Sl w w.heap.size A n c xs) (h' : Sl w w.heap.size A' n' c' ys) (hv : vld false xs = true) (hv' : vld false ys = true)  (p : Nat) (hp : val xs * val ys = p) :
    Calls Try.prog 29 #[.agg #[.bool false, .slice A n c], .agg #[.bool false, .slice A' n' c']] w (RetIE (fitZ (sg false p)) (fitE (sg false p)) w) := by
  have Hp := Lib.hid hp
  clear hp
  have Hg := Lib.hid (And.intro (vld_true hv) (vld_true hv'))
  have hlx := h.len
  have hly := h'.len
  have hn : n ≤ 1000000 := by have := Hg.out.1.1; omega
  have hn' : n' ≤ 1000000 := by have := Hg.out.2.1; omega
  clear hlx hly
  go_enter Try.func29, Try.ntmps29
  go_wp2_with fail
  generalize hW : World.alloc (World.alloc (World.alloc w _) _) _ = W
  obtain ⟨hb, hz, b0, b1, b2⟩ := sum_boxes false false A A' n c n' c' w W hW
  have hs := h.on hb
  have hs' := h'.on hb
  clear hW
  refine (valid_any _ _ _ _ _ xs _ hs (Nat.le_refl _)).mono ?_
  rintro e w1 ⟨rfl, hb1⟩
  have hz1 : w.heap.size + 1 + 1 < w1.heap.size := by have := hb1.size; omega
  have b0' := b0.below hb1 (by omega)
  have b1' := b1.below hb1 (by omega)
  have b2' := b2.below hb1 (by omega)
  have hs1 := hs.on hb1
  have hs1' := hs'.on hb1
  have q0 := b1'.c0
  have q1 := b1'.c1
  go_wp2_with fail
  refine (valid_any _ _ _ _ _ ys _ hs1' (Nat.le_refl _)).mono ?_
  rintro e w2 ⟨rfl, hb2⟩
  clear q0 q1
  have hz2 : w.heap.size + 1 + 1 < w2.heap.size := by have := hb2.size; omega
  have b0'' := b0'.below hb2 (by omega)
  have b1'' := b1'.below hb2 (by omega)
  have b2'' := b2'.below hb2 (by omega)
  have hs2 := hs1.on hb2
  have hs2' := hs1'.on hb2
  have k0 := b0''.c0
  have k1 := b0''.c1
  have k2 := b1''.c0
  have k3 := b1''.c1
  generalize hr : w.heap.size = r at *
  have HRW := Lib.hid (And.intro hb hr)
  clear hb hr
  have ne1 : r ≠ r + 1 + 1 := by omega
  have ne2 : r + 1 + 1 ≠ r := by omega
  go_wp2_with fail
  go_region_held3 (fun w' => w'.cell? ⟨r, 0, none⟩ = some (.bool false) ∧ w'.cell? ⟨r + 1, 0, none⟩ = some (.bool false) ∧ w'.cell? ⟨r, 1, none⟩ = some (.slice A n c) ∧ w'.cell? ⟨r + 1, 1, none⟩ = some (.slice A' n' c'))
    (go_keep)
    (first
      | (go_at_call 60
         have L := limited_any false A1 n1 c1 xs1 w5 hs5 hx5
         rw [hv5] at L
         refine L.mono ?_
         clear L
         rintro e w6 ⟨A2, n2, c2, xs2, rfl, hs6, hx6, hv6, hb6⟩
         have f0 := e0.below hb6 (by omega)
         have f1 := e1.below hb6 (by omega)
         have f2 := e2.below hb6 (by omega)
         have j0' := f0.c0
         have j1' := f0.c1
         have j2' := f1.c1
         have j7' := f1.c0
         have j3' := f2.c0
         have j4' := f2.c1
         have j5' := f2.f 0
         have j6' := f2.f 1
         have H2 := Lib.hid (And.intro hv6 hx6)
         clear hv5 hv6 hx6)
      | (go_at_call 61
         refine (mulMag_any _ _ _ _ _ _ _ _ _ hs2.drew hs2'.drew hn hn').mono ?_
         rintro e w5 ⟨A1, n1, c1, xs1, rfl, hs5, hx5, hv5, hbd⟩
         rw [Hp.out] at hv5
         have hb5 := below_undrew hbd
         clear hbd
         have e0 := b0''.below hb5 (by omega)
         have e1 := b1''.below hb5 (by omega)
         have e2 := b2''.below hb5 (by omega)
         have hz5 := e2.lt
         have j0 := e0.c0
         have j1 := e0.c1
         have j2 := e1.c1
         have j7 := e1.c0))
  go_wp2
  exact bodyPost_ret (v := .tuple #[.agg #[.bool (decide (fitZ (sg false p) < 0)), .slice A2 n2 c2], .int .i64 (fitE (sg false p))])
    (by simp [results, Try.results29, go_sem, j3', j4']) rfl
    ⟨A2, n2, c2, xs2, rfl, hs6.ret f2 _ _, H2.out.2, H2.out.1, by rw [HRW.out.2]; exact below_ret (below_chain (below_chain (below_chain (below_chain HRW.out.1 (by omega) hb1) (by omega) hb2) (by omega) hb5) (by omega) hb6) (show r ≤ r + 1 + 1 by omega) _ _⟩

theorem mul_any (neg neg' : Bool) (A A' : Option Addr) (n c n' c' : Nat) (xs ys : List Nat) (w : World) (h : Sl w w.heap.size A n c xs) (h' : Sl w w.heap.size A' n' c' ys) :
    Calls Try.prog 29 #[.agg #[.bool neg, .slice A n c], .agg #[.bool neg', .slice A' n' c']] w
      (RetIE (opZ (vld neg xs && vld neg' ys) (sg neg (val xs) * sg neg' (val ys))) (opE (vld neg xs && vld neg' ys) (sg neg (val xs) * sg neg' (val ys))) w) := by
  rcases hv : vld neg xs with _ | _
  · exact mul_bad1 neg neg' A A' n c n' c' xs w h hv
  · rcases hv' : vld neg' ys with _ | _
    · exact mul_bad2 neg neg' A A' n c n' c' xs ys w h h' hv hv'
    · have hs := sg_mul neg neg' (val xs) (val ys)
      rw [← hs]
      cases neg <;> cases neg'
      · exact mul_good_ff A A' n c n' c' xs ys w h h' hv hv' _ rfl
      · exact mul_good_ft A A' n c n' c' xs ys w h h' hv hv' _ rfl
      · exact mul_good_tf A A' n c n' c' xs ys w h h' hv hv' _ rfl
      · exact mul_good_tt A A' n c n' c' xs ys w h h' hv hv' _ rfl

end Go.Proofs.Ytalgcppogjpilaa
