/-
  The walks of sum, Add and Sub.
-/
import Derived.Deep.RegionHeld3
import Derived.Test.YtalgcppogjpilaaMag
namespace Go.Proofs.Ytalgcppogjpilaa
open Go.RowKit

/-- The cells of a box, as the walk asks for them. -/
def Cs (w : World) (r : Nat) (neg : Bool) (A : Option Addr) (n c : Nat) : Prop := w.cell? ⟨r, 0, none⟩ = some (.bool neg) ∧ w.cell? ⟨r, 1, none⟩ = some (.slice A n c)
theorem Bx.cs {w : World} {r : Nat} {neg : Bool} {A : Option Addr} {n c : Nat} (h : Bx w r neg A n c) : w.cell? ⟨r, 0, none⟩ = some (.bool neg) ∧ w.cell? ⟨r, 1, none⟩ = some (.slice A n c) := ⟨h.c0, h.c1⟩

theorem sum_boxes (neg neg' : Bool) (A A' : Option Addr) (n c n' c' : Nat) (w W : World)
    (hW : ((w.alloc (.cells #[.bool neg, .slice A n c] 24)).alloc (.cells #[.bool neg', .slice A' n' c'] 24)).alloc (.cells #[.bool false, .slice none 0 0] 24) = W) :
    Below w.heap.size w W ∧ w.heap.size + 1 + 1 < W.heap.size ∧ Bx W w.heap.size neg A n c ∧ Bx W (w.heap.size + 1) neg' A' n' c' ∧ Bx W (w.heap.size + 1 + 1) false none 0 0 := by
  subst hW
  refine ⟨(((Below.refl _ _).alloc (Nat.le_refl _) _).alloc (by simp) _).alloc (by simp; omega) _, by simp, ((Bx.new w _ _ _ _).alloc _).alloc _, ?_, ?_⟩
  · have := (Bx.new (w.alloc (.cells #[.bool neg, .slice A n c] 24)) neg' A' n' c').alloc (.cells #[.bool false, .slice none 0 0] 24)
    simpa using this
  · have := Bx.new ((w.alloc (.cells #[.bool neg, .slice A n c] 24)).alloc (.cells #[.bool neg', .slice A' n' c'] 24)) false none 0 0
    simpa using this

set_option maxHeartbeats 1000000 in
theorem sum_same (neg : Bool) (A A' : Option Addr) (n c n' c' : Nat) (xs ys : List Nat) (w : World) (h : Sl w w.heap.size A n c xs) (h' : Sl w w.heap.size A' n' c' ys) (hn : n ≤ 1000000) (hn' : n' ≤ 1000000) :
    Calls Try.prog 54 #[.agg #[.bool neg, .slice A n c], .agg #[.bool neg, .slice A' n' c']] w (RetIE (fitZ (sg neg (val xs + val ys : Nat))) (fitE (sg neg (val xs + val ys : Nat))) w) := by
  have ht : (neg == neg) = true := by simp
  go_enter Try.func54, Try.ntmps54
  go_wp2_with fail
  generalize hW : World.alloc (World.alloc (World.alloc w _) _) _ = W
  obtain ⟨hb, hz, b0, b1, b2⟩ := sum_boxes neg neg A A' n c n' c' w W hW
  have hs := h.on hb
  have hs' := h'.on hb
  clear hW
  have k0 := b0.c0
  have k1 := b0.c1
  have k2 := b1.c1
  have k3 := b2.c0
  have k4 := b2.c1
  have k5 := b2.f 0
  have k6 := b2.f 1
  generalize hr : w.heap.size = r at *
  have HRW := Lib.hid (And.intro hb hr)
  clear hb hr
  have ne1 : r ≠ r + 1 + 1 := by omega
  have ne2 : r + 1 + 1 ≠ r := by omega
  go_region_held3 (fun w' => w'.cell? ⟨r, 0, none⟩ = some (.bool neg) ∧ w'.cell? ⟨r, 1, none⟩ = some (.slice A n c) ∧ w'.cell? ⟨r + 1, 1, none⟩ = some (.slice A' n' c'))
    (go_keep)
    (first
      | (go_at_call 60
         have L := limited_any neg A1 n1 c1 xs1 w1 hs1 hx1
         rw [hv1] at L
         refine L.mono ?_
         clear L
         rintro e w2 ⟨A2, n2, c2, xs2, rfl, hs2, hx2, hv2, hb2⟩
         have b0'' := b0'.below hb2 (by omega)
         have b1'' := b1'.below hb2 (by omega)
         have b2'' := b2'.below hb2 (by omega)
         have j0' := b0''.c0
         have j1' := b0''.c1
         have j2' := b1''.c1
         have j3' := b2''.c0
         have j4' := b2''.c1
         have j5' := b2''.f 0
         have j6' := b2''.f 1
         have H2 := Lib.hid (And.intro hv1 (And.intro hv2 hx2))
         clear hv1 hv2 hx2)
      | (go_at_call 64
         refine (addMag_any _ _ _ _ _ _ _ _ _ hs.drew hs'.drew hn hn').mono ?_
         rintro e w1 ⟨A1, n1, c1, xs1, rfl, hs1, hx1, hv1, hbd⟩
         have hb1 := below_undrew hbd
         clear hbd
         have b0' := b0.below hb1 (by omega)
         have b1' := b1.below hb1 (by omega)
         have b2' := b2.below hb1 (by omega)
         have hz2 := b2'.lt
         have j0 := b0'.c0
         have j1 := b0'.c1
         have j2 := b1'.c1))
  go_wp2
  exact bodyPost_ret (v := .tuple #[.agg #[.bool (decide (fitZ (sg neg (val xs + val ys : Nat)) < 0)), .slice A2 n2 c2], .int .i64 (fitE (sg neg (val xs + val ys : Nat)))])
    (by simp [results, Try.results54, go_sem, j3', j4']) rfl
    ⟨A2, n2, c2, xs2, rfl, hs2.ret b2'' _ _, H2.out.2.2, H2.out.2.1, by rw [HRW.out.2]; exact below_ret (below_chain (below_chain HRW.out.1 (by omega) hb1) (by omega) hb2) (show r ≤ r + 1 + 1 by omega) _ _⟩

set_option maxHeartbeats 1000000 in
theorem sum_less (neg neg' : Bool) (A A' : Option Addr) (n c n' c' : Nat) (xs ys : List Nat) (w : World) (h : Sl w w.heap.size A n c xs) (h' : Sl w w.heap.size A' n' c' ys) (hx : Nz xs) (hy : Nz ys) (ht : (neg == neg') = false) (hlt : val xs < val ys) :
    Calls Try.prog 54 #[.agg #[.bool neg, .slice A n c], .agg #[.bool neg', .slice A' n' c']] w (RetIE (fitZ (sg neg' (val ys - val xs : Nat))) (fitE (sg neg' (val ys - val xs : Nat))) w) := by
  have Hlt := Lib.hid hlt
  have Hcv : Hid ((cmpv (val xs) (val ys) < 0) = True) := by
    rw [Hid]; simp [cmpv_lt hlt]
  clear hlt
  go_enter Try.func54, Try.ntmps54
  go_wp2_with fail
  generalize hW : World.alloc (World.alloc (World.alloc w _) _) _ = W
  obtain ⟨hb, hz, b0, b1, b2⟩ := sum_boxes neg neg' A A' n c n' c' w W hW
  have hs := h.on hb
  have hs' := h'.on hb
  clear hW
  have q0 := b0.c1
  have q1 := b1.c1
  refine (cmpMag_any _ _ _ _ _ _ _ _ xs ys _ hs hs' hx hy).mono ?_
  rintro e w0 ⟨rfl, q, rfl⟩
  clear q0 q1
  have hb := below_drewN hb q
  have hs : Sl (W.drewN q) (W.drewN q).heap.size A n c xs := hs.drewN q
  have hs' : Sl (W.drewN q) (W.drewN q).heap.size A' n' c' ys := hs'.drewN q
  have b0 := b0.drewN q
  have b1 := b1.drewN q
  have b2 := b2.drewN q
  have hz : w.heap.size + 1 + 1 < (W.drewN q).heap.size := hz
  generalize W.drewN q = W at *
  have k0 := b1.c0
  have k1 := b0.c1
  have k2 := b1.c1
  have k3 := b2.c0
  have k4 := b2.c1
  have k5 := b2.f 0
  have k6 := b2.f 1
  generalize hr : w.heap.size = r at *
  have HRW := Lib.hid (And.intro hb hr)
  clear hb hr
  have ne1 : r ≠ r + 1 + 1 := by omega
  have ne2 : r + 1 + 1 ≠ r := by omega
  have hcv : cmpv (val xs) (val ys) < 0 := by rw [Hcv.out]; trivial
  go_wp2_with fail
  go_region_held3 (fun w' => w'.cell? ⟨r + 1, 0, none⟩ = some (.bool neg') ∧ w'.cell? ⟨r, 1, none⟩ = some (.slice A n c) ∧ w'.cell? ⟨r + 1, 1, none⟩ = some (.slice A' n' c'))
    (go_keep)
    (first
      | (go_at_call 60
         have L := limited_any neg' A1 n1 c1 xs1 w1 hs1 hx1
         rw [hv1] at L
         refine L.mono ?_
         clear L
         rintro e w2 ⟨A2, n2, c2, xs2, rfl, hs2, hx2, hv2, hb2⟩
         have b0'' := b0'.below hb2 (by omega)
         have b1'' := b1'.below hb2 (by omega)
         have b2'' := b2'.below hb2 (by omega)
         have j0' := b1''.c0
         have j1' := b0''.c1
         have j2' := b1''.c1
         have j3' := b2''.c0
         have j4' := b2''.c1
         have j5' := b2''.f 0
         have j6' := b2''.f 1
         have H2 := Lib.hid (And.intro hv1 (And.intro hv2 hx2))
         clear hv1 hv2 hx2)
      | (go_at_call 65
         refine (subMag_any _ _ _ _ _ _ _ _ _ hs'.drew hs.drew hx (Nat.le_of_lt Hlt.out)).mono ?_
         rintro e w1 ⟨A1, n1, c1, xs1, rfl, hs1, hx1, hv1, hbd⟩
         have hb1 := below_undrew hbd
         clear hbd
         have b0' := b0.below hb1 (by omega)
         have b1' := b1.below hb1 (by omega)
         have b2' := b2.below hb1 (by omega)
         have hz2 := b2'.lt
         have j0 := b1'.c0
         have j1 := b0'.c1
         have j2 := b1'.c1))
  go_wp2
  exact bodyPost_ret (v := .tuple #[.agg #[.bool (decide (fitZ (sg neg' (val ys - val xs : Nat)) < 0)), .slice A2 n2 c2], .int .i64 (fitE (sg neg' (val ys - val xs : Nat)))])
    (by simp [results, Try.results54, go_sem, j3', j4']) rfl
    ⟨A2, n2, c2, xs2, rfl, hs2.ret b2'' _ _, H2.out.2.2, H2.out.2.1, by rw [HRW.out.2]; exact below_ret (below_chain (below_chain HRW.out.1 (by omega) hb1) (by omega) hb2) (show r ≤ r + 1 + 1 by omega) _ _⟩

set_option maxHeartbeats 1000000 in
theorem sum_more (neg neg' : Bool) (A A' : Option Addr) (n c n' c' : Nat) (xs ys : List Nat) (w : World) (h : Sl w w.heap.size A n c xs) (h' : Sl w w.heap.size A' n' c' ys) (hx : Nz xs) (hy : Nz ys) (ht : (neg == neg') = false) (hlt : val ys ≤ val xs) :
    Calls Try.prog 54 #[.agg #[.bool neg, .slice A n c], .agg #[.bool neg', .slice A' n' c']] w (RetIE (fitZ (sg neg (val xs - val ys : Nat))) (fitE (sg neg (val xs - val ys : Nat))) w) := by
  have Hlt := Lib.hid hlt
  have Hcv : Hid ((cmpv (val xs) (val ys) < 0) = False) := by
    rw [Hid]
    rcases Nat.lt_or_ge (val ys) (val xs) with h1 | h1
    · simp [cmpv_gt h1]
    · have e : val xs = val ys := by omega
      rw [e]; simp [cmpv_eq]
  clear hlt
  go_enter Try.func54, Try.ntmps54
  go_wp2_with fail
  generalize hW : World.alloc (World.alloc (World.alloc w _) _) _ = W
  obtain ⟨hb, hz, b0, b1, b2⟩ := sum_boxes neg neg' A A' n c n' c' w W hW
  have hs := h.on hb
  have hs' := h'.on hb
  clear hW
  have q0 := b0.c1
  have q1 := b1.c1
  refine (cmpMag_any _ _ _ _ _ _ _ _ xs ys _ hs hs' hx hy).mono ?_
  rintro e w0 ⟨rfl, q, rfl⟩
  clear q0 q1
  have hb := below_drewN hb q
  have hs : Sl (W.drewN q) (W.drewN q).heap.size A n c xs := hs.drewN q
  have hs' : Sl (W.drewN q) (W.drewN q).heap.size A' n' c' ys := hs'.drewN q
  have b0 := b0.drewN q
  have b1 := b1.drewN q
  have b2 := b2.drewN q
  have hz : w.heap.size + 1 + 1 < (W.drewN q).heap.size := hz
  generalize W.drewN q = W at *
  have k0 := b0.c0
  have k1 := b0.c1
  have k2 := b1.c1
  have k3 := b2.c0
  have k4 := b2.c1
  have k5 := b2.f 0
  have k6 := b2.f 1
  generalize hr : w.heap.size = r at *
  have HRW := Lib.hid (And.intro hb hr)
  clear hb hr
  have ne1 : r ≠ r + 1 + 1 := by omega
  have ne2 : r + 1 + 1 ≠ r := by omega
  have hcv : 0 ≤ cmpv (val xs) (val ys) := by have := Hcv.out; simp at this; omega
  go_wp2_with fail
  go_region_held3 (fun w' => w'.cell? ⟨r, 0, none⟩ = some (.bool neg) ∧ w'.cell? ⟨r, 1, none⟩ = some (.slice A n c) ∧ w'.cell? ⟨r + 1, 1, none⟩ = some (.slice A' n' c'))
    (go_keep)
    (first
      | (go_at_call 60
         have L := limited_any neg A1 n1 c1 xs1 w1 hs1 hx1
         rw [hv1] at L
         refine L.mono ?_
         clear L
         rintro e w2 ⟨A2, n2, c2, xs2, rfl, hs2, hx2, hv2, hb2⟩
         have b0'' := b0'.below hb2 (by omega)
         have b1'' := b1'.below hb2 (by omega)
         have b2'' := b2'.below hb2 (by omega)
         have j0' := b0''.c0
         have j1' := b0''.c1
         have j2' := b1''.c1
         have j3' := b2''.c0
         have j4' := b2''.c1
         have j5' := b2''.f 0
         have j6' := b2''.f 1
         have H2 := Lib.hid (And.intro hv1 (And.intro hv2 hx2))
         clear hv1 hv2 hx2)
      | (go_at_call 65
         refine (subMag_any _ _ _ _ _ _ _ _ _ hs.drew hs'.drew hy Hlt.out).mono ?_
         rintro e w1 ⟨A1, n1, c1, xs1, rfl, hs1, hx1, hv1, hbd⟩
         have hb1 := below_undrew hbd
         clear hbd
         have b0' := b0.below hb1 (by omega)
         have b1' := b1.below hb1 (by omega)
         have b2' := b2.below hb1 (by omega)
         have hz2 := b2'.lt
         have j0 := b0'.c0
         have j1 := b0'.c1
         have j2 := b1'.c1))
  go_wp2
  exact bodyPost_ret (v := .tuple #[.agg #[.bool (decide (fitZ (sg neg (val xs - val ys : Nat)) < 0)), .slice A2 n2 c2], .int .i64 (fitE (sg neg (val xs - val ys : Nat)))])
    (by simp [results, Try.results54, go_sem, j3', j4']) rfl
    ⟨A2, n2, c2, xs2, rfl, hs2.ret b2'' _ _, H2.out.2.2, H2.out.2.1, by rw [HRW.out.2]; exact below_ret (below_chain (below_chain HRW.out.1 (by omega) hb1) (by omega) hb2) (show r ≤ r + 1 + 1 by omega) _ _⟩

theorem sg_add (neg : Bool) (a b : Nat) : sg neg (a + b) = sg neg a + sg neg b := by cases neg <;> simp only [sg_true, sg_false] <;> omega
theorem sg_sub {neg neg' : Bool} (h : (neg == neg') = false) {a b : Nat} (hle : b ≤ a) : sg neg (a - b) = sg neg a + sg neg' b := by
  cases neg <;> cases neg' <;> simp only [sg_true, sg_false] <;> first | omega | (simp at h)
theorem beq_comm' {a b : Bool} (h : (a == b) = false) : (b == a) = false := by cases a <;> cases b <;> simp_all

theorem sum_any (neg neg' : Bool) (A A' : Option Addr) (n c n' c' : Nat) (xs ys : List Nat) (w : World) (h : Sl w w.heap.size A n c xs) (h' : Sl w w.heap.size A' n' c' ys) (hx : Nz xs) (hy : Nz ys) (hn : n ≤ 1000000) (hn' : n' ≤ 1000000) :
    Calls Try.prog 54 #[.agg #[.bool neg, .slice A n c], .agg #[.bool neg', .slice A' n' c']] w (RetIE (fitZ (sg neg (val xs) + sg neg' (val ys))) (fitE (sg neg (val xs) + sg neg' (val ys))) w) := by
  by_cases he : neg = neg'
  · subst he
    have := sum_same neg A A' n c n' c' xs ys w h h' hn hn'
    rwa [sg_add] at this
  · have ht : (neg == neg') = false := by rw [beq_eq_false_iff_ne]; exact he
    rcases Nat.lt_or_ge (val xs) (val ys) with hlt | hge
    · have := sum_less neg neg' A A' n c n' c' xs ys w h h' hx hy ht hlt
      rwa [sg_sub (beq_comm' ht) (Nat.le_of_lt hlt), Int.add_comm] at this
    · have := sum_more neg neg' A A' n c n' c' xs ys w h h' hx hy ht hge
      rwa [sg_sub ht hge] at this

/-- What validity says. -/
theorem vld_true {neg : Bool} {xs : List Nat} (h : vld neg xs = true) : xs.length ≤ 128 ∧ Nz xs ∧ (xs = [] → neg = false) := by
  unfold vld at h
  by_cases h0 : xs.length = 0
  · rw [if_pos h0] at h
    have e : xs = [] := List.eq_nil_of_length_eq_zero h0
    subst e
    exact ⟨by simp, Nz.nil, fun _ => by simpa using h⟩
  · rw [if_neg h0] at h
    simp only [Bool.and_eq_true, decide_eq_true_eq, Bool.not_eq_true', beq_eq_false_iff_ne] at h
    have hne : xs ≠ [] := by rintro rfl; exact h0 rfl
    exact ⟨h.1, (nz_iff hne).2 h.2, fun e => absurd e hne⟩

end Go.Proofs.Ytalgcppogjpilaa
