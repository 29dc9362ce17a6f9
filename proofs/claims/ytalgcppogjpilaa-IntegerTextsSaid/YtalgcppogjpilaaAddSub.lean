/-
  The walks of Add and Sub.
-/
import Derived.Test.YtalgcppogjpilaaSum
namespace Go.Proofs.Ytalgcppogjpilaa
open Go.RowKit

set_option maxHeartbeats 1000000 in
theorem add_bad1 (neg neg' : Bool) (A A' : Option Addr) (n c n' c' : Nat) (xs : List Nat) (w : World) (h : Sl w w.heap.size A n c xs) (hv : vld neg xs = false) :
    Calls Try.prog 25 #[.agg #[.bool neg, .slice A n c], .agg #[.bool neg', .slice A' n' c']] w (RetIE 0 1 w) := by
  go_enter Try.func25, Try.ntmps25
  go_wp2_with fail
  generalize hW : World.alloc (World.alloc (World.alloc w _) _) _ = W
  obtain ⟨hb, hz, b0, b1, b2⟩ := sum_boxes neg neg' A A' n c n' c' w W hW
  have hs := h.on hb
  clear hW
  refine (valid_any _ _ _ _ _ xs _ hs (Nat.le_refl _)).mono ?_
  rintro e w1 ⟨rfl, hb1⟩
  have b2' := b2.below hb1 (by omega)
  have k3 := b2'.c0
  have k4 := b2'.c1
  have k5 := b2'.f 0
  have k6 := b2'.f 1
  generalize hr : w.heap.size = r at *
  have HRW := Lib.hid (And.intro hb hr)
  clear hb hr
  go_wp2
  exact bodyPost_ret (v := .tuple #[.agg #[.bool false, .slice none 0 0], .int .i64 1]) (by simp [results, Try.results25, go_sem, k3, k4]) rfl
    ⟨none, 0, 0, [], rfl, Sl.nil _ _, Nz.nil, rfl, by rw [HRW.out.2]; exact below_ret (below_chain HRW.out.1 (by omega) hb1) (show r ≤ r + 1 + 1 by omega) _ _⟩

set_option maxHeartbeats 1000000 in
theorem add_bad2 (neg neg' : Bool) (A A' : Option Addr) (n c n' c' : Nat) (xs ys : List Nat) (w : World) (h : Sl w w.heap.size A n c xs) (h' : Sl w w.heap.size A' n' c' ys) (hv : vld neg xs = true) (hv' : vld neg' ys = false) :
    Calls Try.prog 25 #[.agg #[.bool neg, .slice A n c], .agg #[.bool neg', .slice A' n' c']] w (RetIE 0 1 w) := by
  go_enter Try.func25, Try.ntmps25
  go_wp2_with fail
  generalize hW : World.alloc (World.alloc (World.alloc w _) _) _ = W
  obtain ⟨hb, hz, b0, b1, b2⟩ := sum_boxes neg neg' A A' n c n' c' w W hW
  have hs := h.on hb
  have hs' := h'.on hb
  clear hW
  refine (valid_any _ _ _ _ _ xs _ hs (Nat.le_refl _)).mono ?_
  rintro e w1 ⟨rfl, hb1⟩
  have hz1 : w.heap.size + 1 + 1 < w1.heap.size := by have := hb1.size; omega
  have b1' := b1.below hb1 (by omega)
  have b2' := b2.below hb1 (by omega)
  have q0 := b1'.c0
  have q1 := b1'.c1
  go_wp2_with fail
  refine (valid_any _ _ _ _ _ ys _ (hs'.on hb1) (Nat.le_refl _)).mono ?_
  rintro e w2 ⟨rfl, hb2⟩
  clear q0 q1
  have b2'' := b2'.below hb2 (by omega)
  have k3 := b2''.c0
  have k4 := b2''.c1
  have k5 := b2''.f 0
  have k6 := b2''.f 1
  generalize hr : w.heap.size = r at *
  have HRW := Lib.hid (And.intro hb hr)
  clear hb hr
  go_wp2
  exact bodyPost_ret (v := .tuple #[.agg #[.bool false, .slice none 0 0], .int .i64 1]) (by simp [results, Try.results25, go_sem, k3, k4]) rfl
    ⟨none, 0, 0, [], rfl, Sl.nil _ _, Nz.nil, rfl, by rw [HRW.out.2]; exact below_ret (below_chain (below_chain HRW.out.1 (by omega) hb1) (by omega) hb2) (show r ≤ r + 1 + 1 by omega) _ _⟩

set_option maxHeartbeats 1000000 in
theorem add_good (neg neg' : Bool) (A A' : Option Addr) (n c n' c' : Nat) (xs ys : List Nat) (w : World) (h : Sl w w.heap.size A n c xs) (h' : Sl w w.heap.size A' n' c' ys) (hv : vld neg xs = true) (hv' : vld neg' ys = true) :
    Calls Try.prog 25 #[.agg #[.bool neg, .slice A n c], .agg #[.bool neg', .slice A' n' c']] w (RetIE (fitZ (sg neg (val xs) + sg neg' (val ys))) (fitE (sg neg (val xs) + sg neg' (val ys))) w) := by
  have Hg := Lib.hid (And.intro (vld_true hv) (vld_true hv'))
  have hlx := h.len
  have hly := h'.len
  have hn : n ≤ 1000000 := by have := Hg.out.1.1; omega
  have hn' : n' ≤ 1000000 := by have := Hg.out.2.1; omega
  clear hlx hly
  go_enter Try.func25, Try.ntmps25
  go_wp2_with fail
  generalize hW : World.alloc (World.alloc (World.alloc w _) _) _ = W
  obtain ⟨hb, hz, b0, b1, b2⟩ := sum_boxes neg neg' A A' n c n' c' w W hW
  have hs := h.on hb
  have hs' := h'.on hb
  clear hW
  refine (valid_any _ _ _ _ _ xs _ hs (Nat.le_refl _)).mono ?_
  rintro e w1 ⟨rfl, hb1⟩
  have hz1 : w.heap.size + 1 + 1 < w1.heap.size := by have := hb1.size; omega
  have b0' := b0.below hb1 (by omega)
  have b1' := b1.below hb1 (by omega)
  have b2' := b2.below hb1 (by omega)
  have hs1 := hs.on hb1
  have hs1' := hs'.on hb1
  have q0 := b1'.c0
  have q1 := b1'.c1
  go_wp2_with fail
  refine (valid_any _ _ _ _ _ ys _ hs1' (Nat.le_refl _)).mono ?_
  rintro e w2 ⟨rfl, hb2⟩
  clear q0 q1
  have hz2 : w.heap.size + 1 + 1 < w2.heap.size := by have := hb2.size; omega
  have b0'' := b0'.below hb2 (by omega)
  have b1'' := b1'.below hb2 (by omega)
  have b2'' := b2'.below hb2 (by omega)
  have hs2 := hs1.on hb2
  have hs2' := hs1'.on hb2
  have k0 := b0''.c0
  have k1 := b0''.c1
  have k2 := b1''.c0
  have k3 := b1''.c1
  generalize hr : w.heap.size = r at *
  have HRW := Lib.hid (And.intro hb hr)
  clear hb hr
  go_wp2_with fail
  refine (sum_any _ _ _ _ _ _ _ _ xs ys _ hs2 hs2' Hg.out.1.2.1 Hg.out.2.2.1 hn hn').mono ?_
  rintro e w3 ⟨A3, n3, c3, xs3, rfl, hs3, hx3, hv3, hb3⟩
  have b3 := b2''.below hb3 (by omega)
  have j3 := b3.c0
  have j4 := b3.c1
  have j5 := b3.f 0
  have j6 := b3.f 1
  have Hv3 := Lib.hid hv3
  clear hv3
  go_wp2
  exact bodyPost_ret (v := .tuple #[.agg #[.bool (decide (fitZ (sg neg (val xs) + sg neg' (val ys)) < 0)), .slice A3 n3 c3], .int .i64 (fitE (sg neg (val xs) + sg neg' (val ys)))]) (by simp [results, Try.results25, go_sem, j3, j4]) rfl
    ⟨A3, n3, c3, xs3, rfl, hs3.ret b3 _ _, hx3, Hv3.out, by rw [HRW.out.2]; exact below_ret (below_chain (below_chain (below_chain HRW.out.1 (by omega) hb1) (by omega) hb2) (by omega) hb3) (show r ≤ r + 1 + 1 by omega) _ _⟩

set_option maxHeartbeats 1000000 in
theorem sub_bad1 (neg neg' : Bool) (A A' : Option Addr) (n c n' c' : Nat) (xs : List Nat) (w : World) (h : Sl w w.heap.size A n c xs) (hv : vld neg xs = false) :
    Calls Try.prog 27 #[.agg #[.bool neg, .slice A n c], .agg #[.bool neg', .slice A' n' c']] w (RetIE 0 1 w) := by
  go_enter Try.func27, Try.ntmps27
  go_wp2_with fail
  generalize hW : World.alloc (World.alloc (World.alloc w _) _) _ = W
  obtain ⟨hb, hz, b0, b1, b2⟩ := sum_boxes neg neg' A A' n c n' c' w W hW
  have hs := h.on hb
  clear hW
  refine (valid_any _ _ _ _ _ xs _ hs (Nat.le_refl _)).mono ?_
  rintro e w1 ⟨rfl, hb1⟩
  have b2' := b2.below hb1 (by omega)
  have k3 := b2'.c0
  have k4 := b2'.c1
  have k5 := b2'.f 0
  have k6 := b2'.f 1
  generalize hr : w.heap.size = r at *
  have HRW := Lib.hid (And.intro hb hr)
  clear hb hr
  go_wp2
  exact bodyPost_ret (v := .tuple #[.agg #[.bool false, .slice none 0 0], .int .i64 1]) (by simp [results, Try.results27, go_sem, k3, k4]) rfl
    ⟨none, 0, 0, [], rfl, Sl.nil _ _, Nz.nil, rfl, by rw [HRW.out.2]; exact below_ret (below_chain HRW.out.1 (by omega) hb1) (show r ≤ r + 1 + 1 by omega) _ _⟩

set_option maxHeartbeats 1000000 in
theorem sub_bad2 (neg neg' : Bool) (A A' : Option Addr) (n c n' c' : Nat) (xs ys : List Nat) (w : World) (h : Sl w w.heap.size A n c xs) (h' : Sl w w.heap.size A' n' c' ys) (hv : vld neg xs = true) (hv' : vld neg' ys = false) :
    Calls Try.prog 27 #[.agg #[.bool neg, .slice A n c], .agg #[.bool neg', .slice A' n' c']] w (RetIE 0 1 w) := by
  go_enter Try.func27, Try.ntmps27
  go_wp2_with fail
  generalize hW : World.alloc (World.alloc (World.alloc w _) _) _ = W
  obtain ⟨hb, hz, b0, b1, b2⟩ := sum_boxes neg neg' A A' n c n' c' w W hW
  have hs := h.on hb
  have hs' := h'.on hb
  clear hW
  refine (valid_any _ _ _ _ _ xs _ hs (Nat.le_refl _)).mono ?_
  rintro e w1 ⟨rfl, hb1⟩
  have hz1 : w.heap.size + 1 + 1 < w1.heap.size := by have := hb1.size; omega
  have b1' := b1.below hb1 (by omega)
  have b2' := b2.below hb1 (by omega)
  have q0 := b1'.c0
  have q1 := b1'.c1
  go_wp2_with fail
  refine (valid_any _ _ _ _ _ ys _ (hs'.on hb1) (Nat.le_refl _)).mono ?_
  rintro e w2 ⟨rfl, hb2⟩
  clear q0 q1
  have b2'' := b2'.below hb2 (by omega)
  have k3 := b2''.c0
  have k4 := b2''.c1
  have k5 := b2''.f 0
  have k6 := b2''.f 1
  generalize hr : w.heap.size = r at *
  have HRW := Lib.hid (And.intro hb hr)
  clear hb hr
  go_wp2
  exact bodyPost_ret (v := .tuple #[.agg #[.bool false, .slice none 0 0], .int .i64 1]) (by simp [results, Try.results27, go_sem, k3, k4]) rfl
    ⟨none, 0, 0, [], rfl, Sl.nil _ _, Nz.nil, rfl, by rw [HRW.out.2]; exact below_ret (below_chain (below_chain HRW.out.1 (by omega) hb1) (by omega) hb2) (show r ≤ r + 1 + 1 by omega) _ _⟩

set_option maxHeartbeats 1000000 in
theorem sub_good (neg neg' : Bool) (A A' : Option Addr) (n c n' c' : Nat) (xs ys : List Nat) (w : World) (h : Sl w w.heap.size A n c xs) (h' : Sl w w.heap.size A' n' c' ys) (hv : vld neg xs = true) (hv' : vld neg' ys = true) :
    Calls Try.prog 27 #[.agg #[.bool neg, .slice A n c], .agg #[.bool neg', .slice A' n' c']] w (RetIE (fitZ (sg neg (val xs) + sg (!neg') (val ys))) (fitE (sg neg (val xs) + sg (!neg') (val ys))) w) := by
  have Hg := Lib.hid (And.intro (vld_true hv) (vld_true hv'))
  have hlx := h.len
  have hly := h'.len
  have hn : n ≤ 1000000 := by have := Hg.out.1.1; omega
  have hn' : n' ≤ 1000000 := by have := Hg.out.2.1; omega
  clear hlx hly
  go_enter Try.func27, Try.ntmps27
  go_wp2_with fail
  generalize hW : World.alloc (World.alloc (World.alloc w _) _) _ = W
  obtain ⟨hb, hz, b0, b1, b2⟩ := sum_boxes neg neg' A A' n c n' c' w W hW
  have hs := h.on hb
  have hs' := h'.on hb
  clear hW
  refine (valid_any _ _ _ _ _ xs _ hs (Nat.le_refl _)).mono ?_
  rintro e w1 ⟨rfl, hb1⟩
  have hz1 : w.heap.size + 1 + 1 < w1.heap.size := by have := hb1.size; omega
  have b0' := b0.below hb1 (by omega)
  have b1' := b1.below hb1 (by omega)
  have b2' := b2.below hb1 (by omega)
  have hs1 := hs.on hb1
  have hs1' := hs'.on hb1
  have q0 := b1'.c0
  have q1 := b1'.c1
  go_wp2_with fail
  refine (valid_any _ _ _ _ _ ys _ hs1' (Nat.le_refl _)).mono ?_
  rintro e w2 ⟨rfl, hb2⟩
  clear q0 q1
  have hz2 : w.heap.size + 1 + 1 < w2.heap.size := by have := hb2.size; omega
  have b0'' := b0'.below hb2 (by omega)
  have b1'' := b1'.below hb2 (by omega)
  have b2'' := b2'.below hb2 (by omega)
  have hs2 := hs1.on hb2
  have hs2' := hs1'.on hb2
  have k0 := b0''.c0
  have k1 := b0''.c1
  have k2 := b1''.c0
  have k3 := b1''.c1
  generalize hr : w.heap.size = r at *
  have HRW := Lib.hid (And.intro hb hr)
  clear hb hr
  go_wp2_with fail
  refine (sum_any _ _ _ _ _ _ _ _ xs ys _ hs2 hs2' Hg.out.1.2.1 Hg.out.2.2.1 hn hn').mono ?_
  rintro e w3 ⟨A3, n3, c3, xs3, rfl, hs3, hx3, hv3, hb3⟩
  have b3 := b2''.below hb3 (by omega)
  have j3 := b3.c0
  have j4 := b3.c1
  have j5 := b3.f 0
  have j6 := b3.f 1
  have Hv3 := Lib.hid hv3
  clear hv3
  go_wp2
  exact bodyPost_ret (v := .tuple #[.agg #[.bool (decide (fitZ (sg neg (val xs) + sg (!neg') (val ys)) < 0)), .slice A3 n3 c3], .int .i64 (fitE (sg neg (val xs) + sg (!neg') (val ys)))]) (by simp [results, Try.results27, go_sem, j3, j4]) rfl
    ⟨A3, n3, c3, xs3, rfl, hs3.ret b3 _ _, hx3, Hv3.out, by rw [HRW.out.2]; exact below_ret (below_chain (below_chain (below_chain HRW.out.1 (by omega) hb1) (by omega) hb2) (by omega) hb3) (show r ≤ r + 1 + 1 by omega) _ _⟩

/-- A result that exists only of valid arguments. -/
def opZ (ok : Bool) (z : Int) : Int := if ok then fitZ z else 0
def opE (ok : Bool) (z : Int) : Int := if ok then fitE z else 1
theorem add_any (neg neg' : Bool) (A A' : Option Addr) (n c n' c' : Nat) (xs ys : List Nat) (w : World) (h : Sl w w.heap.size A n c xs) (h' : Sl w w.heap.size A' n' c' ys) :
    Calls Try.prog 25 #[.agg #[.bool neg, .slice A n c], .agg #[.bool neg', .slice A' n' c']] w
      (RetIE (opZ (vld neg xs && vld neg' ys) (sg neg (val xs) + sg neg' (val ys))) (opE (vld neg xs && vld neg' ys) (sg neg (val xs) + sg neg' (val ys))) w) := by
  rcases hv : vld neg xs with _ | _
  · exact add_bad1 neg neg' A A' n c n' c' xs w h hv
  · rcases hv' : vld neg' ys with _ | _
    · exact add_bad2 neg neg' A A' n c n' c' xs ys w h h' hv hv'
    · exact add_good neg neg' A A' n c n' c' xs ys w h h' hv hv'
theorem sub_any (neg neg' : Bool) (A A' : Option Addr) (n c n' c' : Nat) (xs ys : List Nat) (w : World) (h : Sl w w.heap.size A n c xs) (h' : Sl w w.heap.size A' n' c' ys) :
    Calls Try.prog 27 #[.agg #[.bool neg, .slice A n c], .agg #[.bool neg', .slice A' n' c']] w
      (RetIE (opZ (vld neg xs && vld neg' ys) (sg neg (val xs) + sg (!neg') (val ys))) (opE (vld neg xs && vld neg' ys) (sg neg (val xs) + sg (!neg') (val ys))) w) := by
  rcases hv : vld neg xs with _ | _
  · exact sub_bad1 neg neg' A A' n c n' c' xs w h hv
  · rcases hv' : vld neg' ys with _ | _
    · exact sub_bad2 neg neg' A A' n c n' c' xs ys w h h' hv hv'
    · exact sub_good neg neg' A A' n c n' c' xs ys w h h' hv hv'

end Go.Proofs.Ytalgcppogjpilaa
