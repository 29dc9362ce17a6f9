/-
  The walk of Sqrt, for any integer.
-/
import Derived.Test.YtalgcppogjpilaaSqrt
import Derived.Test.YtalgcppogjpilaaDivZ
namespace Go.Proofs.Ytalgcppogjpilaa
open Go.RowKit

/-- An integer, a yes or no and an error are handed back. -/
def RetSq (z : Int) (b : Bool) (er : Int) (w : World) (e : Ending) (w' : World) : Prop := ∃ A n c xs, e = .returned (.tuple #[.agg #[.bool (decide (z < 0)), .slice A n c], .bool b, .int .i64 er]) ∧ Sl w' w'.heap.size A n c xs ∧ Nz xs ∧ val xs = z.natAbs ∧ Below w.heap.size w w'

set_option maxHeartbeats 1000000 in
theorem sqrt_bad (neg : Bool) (A : Option Addr) (n c : Nat) (xs : List Nat) (w : World) (h : Sl w w.heap.size A n c xs) (hv : vld neg xs = false) :
    Calls Try.prog 37 #[.agg #[.bool neg, .slice A n c]] w (RetSq 0 false 1 w) := by
  go_enter Try.func37, Try.ntmps37
  go_wp2_with fail
  generalize hW : World.alloc (World.alloc w _) _ = W
  obtain ⟨hb, hz, b0, b1⟩ := one_boxes neg A n c w W hW
  have hs := h.on hb
  clear hW
  refine (valid_any _ _ _ _ _ xs _ hs (Nat.le_refl _)).mono ?_
  rintro e w1 ⟨rfl, hb1⟩
  have hz1 : w.heap.size + 1 < w1.heap.size := by have := hb1.size; omega
  have b1 := b1.below hb1 (by omega)
  have hb := below_chain hb (by omega) hb1
  clear hb1
  have k3 := b1.c0
  have k4 := b1.c1
  have k5 := b1.f 0
  have k6 := b1.f 1
  generalize hr : w.heap.size = r at *
  have HRW := Lib.hid (And.intro hb hr)
  clear hb hr
  go_wp2
  exact bodyPost_ret (v := .tuple #[.agg #[.bool false, .slice none 0 0], .bool false, .int .i64 1]) (by simp [results, Try.results37, go_sem, k3, k4]) rfl
    ⟨none, 0, 0, [], rfl, Sl.nil _ _, Nz.nil, rfl, by rw [HRW.out.2]; exact below_ret HRW.out.1 (show r ≤ r + 1 by omega) _ _⟩

set_option maxHeartbeats 1000000 in
theorem sqrt_neg (A : Option Addr) (n c : Nat) (xs : List Nat) (w : World) (h : Sl w w.heap.size A n c xs) (hv : vld true xs = true) :
    Calls Try.prog 37 #[.agg #[.bool true, .slice A n c]] w (RetSq 0 false 5 w) := by
  go_enter Try.func37, Try.ntmps37
  go_wp2_with fail
  generalize hW : World.alloc (World.alloc w _) _ = W
  obtain ⟨hb, hz, b0, b1⟩ := one_boxes true A n c w W hW
  have hs := h.on hb
  clear hW
  refine (valid_any _ _ _ _ _ xs _ hs (Nat.le_refl _)).mono ?_
  rintro e w1 ⟨rfl, hb1⟩
  have hz1 : w.heap.size + 1 < w1.heap.size := by have := hb1.size; omega
  have b0 := b0.below hb1 (by omega)
  have b1 := b1.below hb1 (by omega)
  have hb := below_chain hb (by omega) hb1
  clear hb1
  have k0 := b0.c0
  have k3 := b1.c0
  have k4 := b1.c1
  have k5 := b1.f 0
  have k6 := b1.f 1
  generalize hr : w.heap.size = r at *
  have HRW := Lib.hid (And.intro hb hr)
  clear hb hr
  go_wp2
  exact bodyPost_ret (v := .tuple #[.agg #[.bool false, .slice none 0 0], .bool false, .int .i64 5]) (by simp [results, Try.results37, go_sem, k3, k4]) rfl
    ⟨none, 0, 0, [], rfl, Sl.nil _ _, Nz.nil, rfl, by rw [HRW.out.2]; exact below_ret HRW.out.1 (show r ≤ r + 1 by omega) _ _⟩

set_option maxHeartbeats 2000000 in
theorem sqrt_good (A : Option Addr) (n c : Nat) (xs : List Nat) (w : World) (h : Sl w w.heap.size A n c xs) (hv : vld false xs = true) (s p N : Nat) (cv : Int) (b : Bool) (hN : val xs = N) (h1 : s * s ≤ N) (h2 : N < (s + 1) * (s + 1)) (hp : s * s = p) (hcv : cmpv p N = cv) (hb9 : (cv == 0) = b) :
    Calls Try.prog 37 #[.agg #[.bool false, .slice A n c]] w (RetSq (sg false s) b 0 w) := by
  have Hg := Lib.hid (vld_true hv)
  have hn : n ≤ 128 := by have := h.len; have := Hg.out.1; omega
  have HN := Lib.hid hN
  have HS := Lib.hid (And.intro h1 (And.intro h2 (And.intro hp hcv)))
  clear hN h1 h2 hp hcv
  go_enter Try.func37, Try.ntmps37
  go_wp2_with fail
  generalize hW : World.alloc (World.alloc w _) _ = W
  obtain ⟨hb, hz, b0, b1⟩ := one_boxes false A n c w W hW
  have hs := h.on hb
  clear hW
  refine (valid_any _ _ _ _ _ xs _ hs (Nat.le_refl _)).mono ?_
  rintro e w1 ⟨rfl, hb1⟩
  have hz1 : w.heap.size + 1 < w1.heap.size := by have := hb1.size; omega
  have b0 := b0.below hb1 (by omega)
  have b1 := b1.below hb1 (by omega)
  have hs := hs.on hb1
  have hb := below_chain hb (by omega) hb1
  clear hb1
  have k0 := b0.c0
  have k1 := b0.c1
  go_wp2_with fail
  refine (sqrtMag_any A n c xs w1 hs Hg.out.2.1 hn s (by rw [HN.out]; exact HS.out.1) (by rw [HN.out]; exact HS.out.2.1)).mono ?_
  rintro e w2 ⟨A2, n2, c2, xs2, rfl, hs2, hx2, hv2, hb2⟩
  have HV2 := Lib.hid hv2
  have b0 := b0.below hb2 (by omega)
  have b1 := b1.below hb2 (by omega)
  have hs := hs.on hb2
  have hb := below_chain hb (by omega) hb2
  have hn2 : n2 ≤ 1000000 := by
    have a : val xs2 < BIG := by
      rw [hv2]
      have l := (big_iff h.ok Hg.out.2.1).2 Hg.out.1
      rw [HN.out] at l
      have := HS.out.1
      rcases Nat.eq_zero_or_pos s with e | e
      · rw [e]; exact big_gt
      · exact Nat.lt_of_le_of_lt (Nat.le_trans (Nat.le_mul_of_pos_left s e) this) l
    have := (big_iff hs2.ok hx2).1 a
    have := hs2.len
    omega
  clear hv2 hb2 k0 k1
  have hz2 := b1.lt
  have k0 := b0.c0
  have k1 := b0.c1
  generalize hr : w.heap.size = r at *
  have HRW := Lib.hid (And.intro hb hr)
  clear hb hr
  have ne1 : r ≠ r + 1 := by omega
  have ne2 : r + 1 ≠ r := by omega
  go_wp2_with fail
  go_region_held3 (fun w' => w'.cell? ⟨r, 1, none⟩ = some (.slice A n c))
    (go_keep)
    (first
      | (go_at_call 72
         have L := cmpMag_any A3 A n3 c3 n c _ _ xs3 xs w3 hs3 (hs.on hb3) hx3 Hg.out.2.1
         rw [H3.out, HN.out, HS.out.2.2.2] at L
         refine L.mono ?_
         clear L
         rintro e w4 ⟨rfl, q, rfl⟩
         have j1' := (d0.drewN q).c1)
      | (go_at_call 61
         refine (mulMag_any A2 A2 n2 c2 n2 c2 xs2 xs2 _ hs2.drew hs2.drew hn2 hn2).mono ?_
         rintro e w3 ⟨A3, n3, c3, xs3, rfl, hs3, hx3, hv3, hbd⟩
         have hb3 := below_undrew hbd
         rw [HV2.out, HS.out.2.2.1] at hv3
         have H3 := Lib.hid hv3
         clear hbd hv3
         have d0 := b0.below hb3 (by omega)
         have j1 := d0.c1))
  have b1 := (b1.below hb3 (by omega)).drewN q
  have hs2 := (hs2.on hb3).drewN q
  have hb4 := below_drewN (below_chain HRW.out.1 (by omega) hb3) q
  have hz4 : r + 1 < w3.heap.size := by have := hb3.size; omega
  clear k0 k1 hb3 hs3 hx3
  go_wp2_with fail
  have L := signed_any false A2 n2 c2 xs2 _ hs2 hx2
  rw [HV2.out] at L
  refine L.mono ?_
  clear L
  rintro e w5 ⟨A5, n5, c5, xs5, rfl, hs5, hx5, hv5, hb5⟩
  have b1 := b1.below hb5 (show r + 1 < w3.heap.size from hz4)
  have k3 := b1.c0
  have k4 := b1.c1
  have k5 := b1.f 0
  have k6 := b1.f 1
  have H5 := Lib.hid hv5
  clear hv5
  go_wp2
  exact bodyPost_ret (v := .tuple #[.agg #[.bool (decide (sg false s < 0)), .slice A5 n5 c5], .bool b, .int .i64 0]) (by simp [results, Try.results37, go_sem, k3, k4]) rfl
    ⟨A5, n5, c5, xs5, rfl, hs5.ret b1 _ _, hx5, H5.out, by rw [HRW.out.2]; exact below_ret (below_chain hb4 (show r ≤ w3.heap.size by omega) hb5) (show r ≤ r + 1 by omega) _ _⟩

end Go.Proofs.Ytalgcppogjpilaa
