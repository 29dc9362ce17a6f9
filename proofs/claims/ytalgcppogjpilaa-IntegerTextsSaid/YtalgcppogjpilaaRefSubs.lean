/-
  The walks of the reference's Sub.
-/
import Derived.Test.YtalgcppogjpilaaRefNeg
import Derived.Test.YtalgcppogjpilaaWorks
namespace Go.Proofs.Ytalgcppogjpilaa
open Go.RowKit

set_option maxHeartbeats 1000000 in
theorem rsub_bad1 (neg neg' : Bool) (A A' : Option Addr) (n c n' c' : Nat) (xs : List Nat) (w : World) (h : Sl w w.heap.size A n c xs) (hv : vld neg xs = false) :
    Calls Try.prog 28 #[.agg #[.bool neg, .slice A n c], .agg #[.bool neg', .slice A' n' c']] w (RetIE 0 1 w) := by
  go_enter Try.func28, Try.ntmps28
  go_wp2_with fail
  generalize hW : World.alloc (World.alloc (World.alloc w _) _) _ = W
  obtain ⟨hb, hz, b0, b1, b2⟩ := sum_boxes neg neg' A A' n c n' c' w W hW
  have hs := h.on hb
  clear hW
  refine (rvalid_any _ _ _ _ _ xs _ hs (Nat.le_refl _)).mono ?_
  rintro e w1 ⟨rfl, hb1⟩
  have b2' := b2.below hb1 (by omega)
  have k3 := b2'.c0
  have k4 := b2'.c1
  have k5 := b2'.f 0
  have k6 := b2'.f 1
  generalize hr : w.heap.size = r at *
  have HRW := Lib.hid (And.intro hb hr)
  clear hb hr
  go_wp2
  exact bodyPost_ret (v := .tuple #[.agg #[.bool false, .slice none 0 0], .int .i64 1]) (by simp [results, Try.results28, go_sem, k3, k4]) rfl
    ⟨none, 0, 0, [], rfl, Sl.nil _ _, Nz.nil, rfl, by rw [HRW.out.2]; exact below_ret (below_chain HRW.out.1 (by omega) hb1) (show r ≤ r + 1 + 1 by omega) _ _⟩

set_option maxHeartbeats 1000000 in
theorem rsub_bad2 (neg neg' : Bool) (A A' : Option Addr) (n c n' c' : Nat) (xs ys : List Nat) (w : World) (h : Sl w w.heap.size A n c xs) (h' : Sl w w.heap.size A' n' c' ys) (hv : vld neg xs = true) (hv' : vld neg' ys = false) :
    Calls Try.prog 28 #[.agg #[.bool neg, .slice A n c], .agg #[.bool neg', .slice A' n' c']] w (RetIE 0 1 w) := by
  go_enter Try.func28, Try.ntmps28
  go_wp2_with fail
  generalize hW : World.alloc (World.alloc (World.alloc w _) _) _ = W
  obtain ⟨hb, hz, b0, b1, b2⟩ := sum_boxes neg neg' A A' n c n' c' w W hW
  have hs := h.on hb
  have hs' := h'.on hb
  clear hW
  refine (rvalid_any _ _ _ _ _ xs _ hs (Nat.le_refl _)).mono ?_
  rintro e w1 ⟨rfl, hb1⟩
  have hz1 : w.heap.size + 1 + 1 < w1.heap.size := by have := hb1.size; omega
  have b1' := b1.below hb1 (by omega)
  have b2' := b2.below hb1 (by omega)
  have q0 := b1'.c0
  have q1 := b1'.c1
  go_wp2_with fail
  refine (rvalid_any _ _ _ _ _ ys _ (hs'.on hb1) (Nat.le_refl _)).mono ?_
  rintro e w2 ⟨rfl, hb2⟩
  clear q0 q1
  have b2'' := b2'.below hb2 (by omega)
  have k3 := b2''.c0
  have k4 := b2''.c1
  have k5 := b2''.f 0
  have k6 := b2''.f 1
  generalize hr : w.heap.size = r at *
  have HRW := Lib.hid (And.intro hb hr)
  clear hb hr
  go_wp2
  exact bodyPost_ret (v := .tuple #[.agg #[.bool false, .slice none 0 0], .int .i64 1]) (by simp [results, Try.results28, go_sem, k3, k4]) rfl
    ⟨none, 0, 0, [], rfl, Sl.nil _ _, Nz.nil, rfl, by rw [HRW.out.2]; exact below_ret (below_chain (below_chain HRW.out.1 (by omega) hb1) (by omega) hb2) (show r ≤ r + 1 + 1 by omega) _ _⟩


/-- The opposite of a valid integer is valid. -/
theorem vld_opp {neg : Bool} {xs ys : List Nat} (h : vld neg xs = true) (hy : Ok ys) (ny : Nz ys) (e : val ys = (-sg neg (val xs)).natAbs) (hx : Ok xs) : vld (decide (-sg neg (val xs) < 0)) ys = true := by
  have hl := vld_true h
  have hv : val ys = val xs := by rw [e, Int.natAbs_neg, sg_abs]
  refine vld_of hy ny ?_ ?_
  · rw [hv]; exact (big_iff hx hl.2.1).2 hl.1
  · intro hd
    have hd' : -sg neg (val xs) < 0 := of_decide_eq_true hd
    rw [e]; omega

theorem sg_dec {z : Int} {v : Nat} (h : v = z.natAbs) : sg (decide (z < 0)) v = z := by
  unfold sg
  by_cases hz : z < 0
  · rw [if_pos (by simpa using hz), h]; omega
  · rw [if_neg (by simpa using hz), h]; omega

theorem neg_z (neg : Bool) (A : Option Addr) (n c : Nat) (xs : List Nat) (w : World) (h : Sl w w.heap.size A n c xs) (hx : Nz xs) (u : Int) (hu : -sg neg (val xs) = u) :
    Calls Try.prog 59 #[.agg #[.bool neg, .slice A n c]] w (RetI u w) := hu ▸ neg_any neg A n c xs w h hx

theorem radd_opp (neg neg' : Bool) (A A1 : Option Addr) (n c n1 c1 : Nat) (xs ys xs1 : List Nat) (w : World) (h : Sl w w.heap.size A n c xs) (h1 : Sl w w.heap.size A1 n1 c1 xs1) (ny : Nz xs1)
    (u z : Int) (hu : -sg neg' (val ys) = u) (hz : sg neg (val xs) - sg neg' (val ys) = z)
    (e : val xs1 = u.natAbs) (hv : vld neg xs = true) (hv' : vld neg' ys = true) (hy : Ok ys) :
    Calls Try.prog 26 #[.agg #[.bool neg, .slice A n c], .agg #[.bool (decide (u < 0)), .slice A1 n1 c1]] w (RetIE (fitZ z) (fitE z) w) := by
  subst hu
  subst hz
  have hvo := vld_opp hv' h1.ok ny e hy
  have L := radd_any neg (decide (-sg neg' (val ys) < 0)) A A1 n c n1 c1 xs xs1 w h h1
  rw [hv, hvo, sg_dec e, ← Int.sub_eq_add_neg] at L
  exact L

set_option maxHeartbeats 1000000 in
theorem rsub_good (neg neg' : Bool) (A A' : Option Addr) (n c n' c' : Nat) (xs ys : List Nat) (w : World) (h : Sl w w.heap.size A n c xs) (h' : Sl w w.heap.size A' n' c' ys) (hv : vld neg xs = true) (hv' : vld neg' ys = true) (u z : Int) (hu : -sg neg' (val ys) = u) (hz : sg neg (val xs) - sg neg' (val ys) = z) :
    Calls Try.prog 28 #[.agg #[.bool neg, .slice A n c], .agg #[.bool neg', .slice A' n' c']] w (RetIE (fitZ z) (fitE z) w) := by
  have Hu := Lib.hid hu
  have Hz := Lib.hid hz
  clear hu hz
  have Hg := Lib.hid (And.intro hv hv')
  go_enter Try.func28, Try.ntmps28
  go_wp2_with fail
  generalize hW : World.alloc (World.alloc (World.alloc w _) _) _ = W
  obtain ⟨hb, hz, b0, b1, b2⟩ := sum_boxes neg neg' A A' n c n' c' w W hW
  have hs := h.on hb
  have hs' := h'.on hb
  clear hW
  refine (rvalid_any _ _ _ _ _ xs _ hs (Nat.le_refl _)).mono ?_
  rintro e w1 ⟨rfl, hb1⟩
  have hz1 : w.heap.size + 1 + 1 < w1.heap.size := by have := hb1.size; omega
  have b0' := b0.below hb1 (by omega)
  have b1' := b1.below hb1 (by omega)
  have b2' := b2.below hb1 (by omega)
  have hs1 := hs.on hb1
  have hs1' := hs'.on hb1
  have q0 := b1'.c0
  have q1 := b1'.c1
  rw [hv]
  go_wp2_with fail
  refine (rvalid_any _ _ _ _ _ ys _ hs1' (Nat.le_refl _)).mono ?_
  rintro e w2 ⟨rfl, hb2⟩
  clear q0 q1
  have hz2 : w.heap.size + 1 + 1 < w2.heap.size := by have := hb2.size; omega
  have d0 := b0'.below hb2 (by omega)
  have d1 := b1'.below hb2 (by omega)
  have d2 := b2'.below hb2 (by omega)
  have gs := hs1.on hb2
  have gs' := hs1'.on hb2
  rw [hv']
  clear hv hv'
  have HB := Lib.hid (below_chain (below_chain hb (by omega) hb1) (by omega) hb2)
  clear hb hb1 hb2 b0 b1 b2 b0' b1' b2' hs hs' hs1 hs1'
  generalize hr : w.heap.size = r at *
  have HRW := Lib.hid (And.intro HB.out hr)
  clear HB hr
  have k0 := d0.c0
  have k1 := d0.c1
  have k2 := d1.c0
  have k3 := d1.c1
  go_wp2_with fail
  have ne1 : r ≠ r + 1 + 1 := by omega
  have ne2 : r + 1 + 1 ≠ r := by omega
  go_region_held3 (fun w' => w'.cell? ⟨r, 0, none⟩ = some (.bool neg) ∧ w'.cell? ⟨r, 1, none⟩ = some (.slice A n c) ∧ w'.cell? ⟨r + 1, 0, none⟩ = some (.bool neg') ∧ w'.cell? ⟨r + 1, 1, none⟩ = some (.slice A' n' c'))
    (go_keep)
    (first
      | (go_at_call 59
         refine (neg_z _ _ _ _ ys _ gs'.drew (vld_true Hg.out.2).2.1 u Hu.out).mono ?_
         rintro e w5 ⟨A1, n1, c1, xs1, rfl, hs5, hx5, hv5, hbd⟩
         have hb5 := below_undrew hbd
         clear hbd
         have e0 := d0.below hb5 (by omega)
         have e1 := d1.below hb5 (by omega)
         have e2 := d2.below hb5 (by omega)
         have hz5 := e2.lt
         have gs5 := gs.on hb5
         have Hv5 := Lib.hid hv5
         have j0 := e0.c0
         have j1 := e0.c1
         have j2 := e1.c0
         have j3 := e1.c1
         clear hv5)
      | (go_at_call 26
         refine (radd_opp neg neg' A A1 n c n1 c1 xs ys xs1 w5 gs5 hs5 hx5 u z Hu.out Hz.out Hv5.out Hg.out.1 Hg.out.2 gs'.ok).mono ?_
         rintro e w6 ⟨A2, n2, c2, xs2, rfl, hs6, hx6, hv6, hb6⟩
         have f0 := e0.below hb6 (by omega)
         have f1 := e1.below hb6 (by omega)
         have f2 := e2.below hb6 (by omega)
         have j0' := f0.c0
         have j1' := f0.c1
         have j2' := f1.c0
         have j3' := f1.c1
         have m3' := f2.c0
         have m4' := f2.c1
         have m5' := f2.f 0
         have m6' := f2.f 1
         have H2 := Lib.hid (And.intro hv6 hx6)
         clear hv6 hx6))
  go_wp2
  exact bodyPost_ret (v := .tuple #[.agg #[.bool (decide (fitZ z < 0)), .slice A2 n2 c2], .int .i64 (fitE z)])
    (by simp [results, Try.results28, go_sem, m3', m4']) rfl
    ⟨A2, n2, c2, xs2, rfl, hs6.ret f2 _ _, H2.out.2, H2.out.1, by rw [HRW.out.2]; exact below_ret (below_chain (below_chain HRW.out.1 (by omega) hb5) (by omega) hb6) (show r ≤ r + 1 + 1 by omega) _ _⟩

theorem rsub_any (neg neg' : Bool) (A A' : Option Addr) (n c n' c' : Nat) (xs ys : List Nat) (w : World) (h : Sl w w.heap.size A n c xs) (h' : Sl w w.heap.size A' n' c' ys) :
    Calls Try.prog 28 #[.agg #[.bool neg, .slice A n c], .agg #[.bool neg', .slice A' n' c']] w
      (RetIE (opZ (vld neg xs && vld neg' ys) (sg neg (val xs) - sg neg' (val ys))) (opE (vld neg xs && vld neg' ys) (sg neg (val xs) - sg neg' (val ys))) w) := by
  rcases hv : vld neg xs with _ | _
  · exact rsub_bad1 neg neg' A A' n c n' c' xs w h hv
  · rcases hv' : vld neg' ys with _ | _
    · exact rsub_bad2 neg neg' A A' n c n' c' xs ys w h h' hv hv'
    · exact rsub_good neg neg' A A' n c n' c' xs ys w h h' hv hv' _ _ rfl rfl

end Go.Proofs.Ytalgcppogjpilaa
