/-
 Written by mkbase.py: Bits, RefAdd, RefNeg, RefSubs, RefTimes, RefMul, RefQuotP.
-/
import Derived.Deep.DeepCutAuto
import Derived.StillTailTactics
import Derived.RegionTactic
import Derived.ChangeAlike
import Derived.IntWalk
import Derived.Test.YtphinlongdoedaaGreatBaseF
namespace Go.Proofs.YtphinlongdoedaaGreat
open Go.RowKit
set_option maxRecDepth 20000
set_option maxHeartbeats 2000000
set_option linter.unusedSimpArgs false
theorem rdigits_any (A : Option Addr) (n c B : Nat) (xs : List Nat) (w : World) (h : Sl w B A n c xs) (hx : Nz xs) (hn : n <= 1000000) :
 Calls Tryz.prog 104 #[.slice A n c] w fun e w' => e = .returned (.int .i64 (zC5 (val xs) : Nat)) /\ w = w' := by
 have hcap := h.cap
 have hcr := h.capr
 rcases n with _ | m
 . obtain rfl : xs = [] := List.eq_nil_of_length_eq_zero h.len
   go_enter Tryz.func104, Tryz.ntmps104
   go_wp2
   go_ret
   exact ⟨rfl, rfl⟩
 . have Hv := hI (zO7 h.ok hx h.len)
   have hx1 := h.ok.lim m
   have hb1 := zK4 hx1
   obtain ⟨ad, rfl, hadb, hc1⟩ := h.cell (k := m) (by omega)
   have i4 : (((m + 1 : Nat) : Int) == 0) = false := by rw [beq_eq_false_iff_ne]; omega
   have i1 : ((m + 1 : Nat) : Int) - 1 = (m : Int) := by omega
   have i2 : (m : Int) < ((m + 1 : Nat) : Int) := by omega
   go_enter Tryz.func104, Tryz.ntmps104
   go_wp2
   go_loop [3, 4] (fun nv tv => ∃ k t : Nat, tv = .int .u32 t /\ t < 4294967296 /\ nv = .int .i64 (32 * m + k : Nat) /\ Hid (k + zC5 t = zC5 (lim xs m))) (fun _ tv => (intOf tv).toNat)
   case atStart => exact ⟨0, lim xs m, rfl, hx1, by go_num, by rw [Hid, Nat.zero_add]⟩
   case round =>
    obtain ⟨k, t, rfl, ht, rfl, Hk⟩ := hrel
    by_cases h0 : t = 0
    . subst h0
      have Hk' := hI (show k = zC5 (lim xs m) from Hk.out)
      go_wp2
      go_ret
      exact ⟨ret_int (by rw [Hv.out, Hk'.out]; omega), rfl⟩
    . have hp : 0 < (t : Int) := by omega
      have Hh := hI (nbits_half h0)
      have hk : k <= 32 := by have := Hk.out; omega
      go_wp2
      go_round
      case rel => exact ⟨k + 1, t / 2, by go_num, by omega, by go_num, by have := Hk.out; have := Hh.out; rw [Hid]; omega⟩
      case measure => simp [intOf]; omega
theorem radd_bad1 (neg neg' : Bool) (A A' : Option Addr) (n c n' c' : Nat) (xs : List Nat) (w : World) (h : Sl w w.heap.size A n c xs) (hv : vld neg xs = false) :
 Calls Tryz.prog 51 #[.agg #[.bool neg, .slice A n c], .agg #[.bool neg', .slice A' n' c']] w (zB0 0 1 w) := by
 go_enter Tryz.func51, Tryz.ntmps51
 go_wp2_with fail
 generalize hW : World.alloc (World.alloc (World.alloc w _) _) _ = W
 obtain ⟨hb, hz, b0, b1, b2⟩ := zA8 neg neg' A A' n c n' c' w W hW
 have hs := h.on hb
 clear hW
 refine (zA3 _ _ _ _ _ xs _ hs (Nat.le_refl _)).mono ?_
 rintro e w1 ⟨rfl, hb1⟩
 have b2' := b2.below hb1 (by omega)
 have k3 := b2'.c0
 have k4 := b2'.c1
 have k5 := b2'.f 0
 have k6 := b2'.f 1
 generalize hr : w.heap.size = r at *
 have HRW := hI (And.intro hb hr)
 clear hb hr
 go_wp2
 exact bodyPost_ret (v := .tuple #[.agg #[.bool false, .slice none 0 0], .int .i64 1]) (by simp [results, Tryz.results51, go_sem, k3, k4]) rfl
  ⟨none, 0, 0, [], rfl, Sl.nil _ _, Nz.nil, rfl, by rw [HRW.out.2]; exact zA1 (zA HRW.out.1 (by omega) hb1) (show r <= r + 1 + 1 by omega) _ _⟩
theorem radd_bad2 (neg neg' : Bool) (A A' : Option Addr) (n c n' c' : Nat) (xs ys : List Nat) (w : World) (h : Sl w w.heap.size A n c xs) (h' : Sl w w.heap.size A' n' c' ys) (hv : vld neg xs = true) (hv' : vld neg' ys = false) :
 Calls Tryz.prog 51 #[.agg #[.bool neg, .slice A n c], .agg #[.bool neg', .slice A' n' c']] w (zB0 0 1 w) := by
 go_enter Tryz.func51, Tryz.ntmps51
 go_wp2_with fail
 generalize hW : World.alloc (World.alloc (World.alloc w _) _) _ = W
 obtain ⟨hb, hz, b0, b1, b2⟩ := zA8 neg neg' A A' n c n' c' w W hW
 have hs := h.on hb
 have hs' := h'.on hb
 clear hW
 refine (zA3 _ _ _ _ _ xs _ hs (Nat.le_refl _)).mono ?_
 rintro e w1 ⟨rfl, hb1⟩
 have hz1 : w.heap.size + 1 + 1 < w1.heap.size := by have := hb1.size; omega
 have b1' := b1.below hb1 (by omega)
 have b2' := b2.below hb1 (by omega)
 have q0 := b1'.c0
 have q1 := b1'.c1
 go_wp2_with fail
 refine (zA3 _ _ _ _ _ ys _ (hs'.on hb1) (Nat.le_refl _)).mono ?_
 rintro e w2 ⟨rfl, hb2⟩
 clear q0 q1
 have b2'' := b2'.below hb2 (by omega)
 have k3 := b2''.c0
 have k4 := b2''.c1
 have k5 := b2''.f 0
 have k6 := b2''.f 1
 generalize hr : w.heap.size = r at *
 have HRW := hI (And.intro hb hr)
 clear hb hr
 go_wp2
 exact bodyPost_ret (v := .tuple #[.agg #[.bool false, .slice none 0 0], .int .i64 1]) (by simp [results, Tryz.results51, go_sem, k3, k4]) rfl
  ⟨none, 0, 0, [], rfl, Sl.nil _ _, Nz.nil, rfl, by rw [HRW.out.2]; exact zA1 (zA (zA HRW.out.1 (by omega) hb1) (by omega) hb2) (show r <= r + 1 + 1 by omega) _ _⟩
theorem radd_same (neg neg' : Bool) (A A' : Option Addr) (n c n' c' : Nat) (xs ys : List Nat) (w : World) (h : Sl w w.heap.size A n c xs) (h' : Sl w w.heap.size A' n' c' ys) (hv : vld neg xs = true) (hv' : vld neg' ys = true) (ht : (neg == neg') = true) :
 Calls Tryz.prog 51 #[.agg #[.bool neg, .slice A n c], .agg #[.bool neg', .slice A' n' c']] w (zB0 (fitZ (sg neg (val xs + val ys : Nat))) (fitE (sg neg (val xs + val ys : Nat))) w) := by
 obtain rfl : neg = neg' := by simpa using ht
 clear ht
 have ht : (neg == neg) = true := by simp
 have Hg := hI (And.intro (zA2 hv) (zA2 hv'))
 have hlx := h.len
 have hly := h'.len
 have hn : n <= 1000000 := by have := Hg.out.1.1; omega
 have hn' : n' <= 1000000 := by have := Hg.out.2.1; omega
 clear hlx hly
 go_enter Tryz.func51, Tryz.ntmps51
 go_wp2_with fail
 generalize hW : World.alloc (World.alloc (World.alloc w _) _) _ = W
 obtain ⟨hb, hz, b0, b1, b2⟩ := zA8 neg neg A A' n c n' c' w W hW
 have hs := h.on hb
 have hs' := h'.on hb
 clear hW
 refine (zA3 _ _ _ _ _ xs _ hs (Nat.le_refl _)).mono ?_
 rintro e w1 ⟨rfl, hb1⟩
 have hz1 : w.heap.size + 1 + 1 < w1.heap.size := by have := hb1.size; omega
 have b0' := b0.below hb1 (by omega)
 have b1' := b1.below hb1 (by omega)
 have b2' := b2.below hb1 (by omega)
 have hs1 := hs.on hb1
 have hs1' := hs'.on hb1
 have q0 := b1'.c0
 have q1 := b1'.c1
 go_wp2_with fail
 refine (zA3 _ _ _ _ _ ys _ hs1' (Nat.le_refl _)).mono ?_
 rintro e w2 ⟨rfl, hb2⟩
 clear q0 q1
 have hz2 : w.heap.size + 1 + 1 < w2.heap.size := by have := hb2.size; omega
 have b0'' := b0'.below hb2 (by omega)
 have b1'' := b1'.below hb2 (by omega)
 have b2'' := b2'.below hb2 (by omega)
 have hs2 := hs1.on hb2
 have hs2' := hs1'.on hb2
 have k0 := b0''.c0
 have k1 := b0''.c1
 have k2 := b1''.c0
 have k3 := b1''.c1
 generalize hr : w.heap.size = r at *
 have HRW := hI (And.intro hb hr)
 clear hb hr
 have ne1 : r ≠ r + 1 + 1 := by omega
 have ne2 : r + 1 + 1 ≠ r := by omega
 go_wp2_with fail
 go_region_held3 (fun w' => w'.cell? ⟨r, 0, none⟩ = some (.bool neg) /\ w'.cell? ⟨r, 1, none⟩ = some (.slice A n c) /\ w'.cell? ⟨r + 1, 1, none⟩ = some (.slice A' n' c'))
  (go_keep)
  (first
   | (go_at_call 86
      have L := zD8 neg A1 n1 c1 xs1 w5 hs5 hx5
      rw [hv5] at L
      refine L.mono ?_
      clear L
      rintro e w6 ⟨A2, n2, c2, xs2, rfl, hs6, hx6, hv6, hb6⟩
      have f0 := e0.below hb6 (by omega)
      have f1 := e1.below hb6 (by omega)
      have f2 := e2.below hb6 (by omega)
      have j0' := f0.c0
      have j1' := f0.c1
      have j2' := f1.c1
      have j3' := f2.c0
      have j4' := f2.c1
      have j5' := f2.f 0
      have j6' := f2.f 1
      have H2 := hI (And.intro hv6 hx6)
      clear hv5 hv6 hx6)
   | (go_at_call 84
      refine (zM5 _ _ _ _ _ _ _ _ _ hs2.drew hs2'.drew hn hn').mono ?_
      rintro e w5 ⟨A1, n1, c1, xs1, rfl, hs5, hx5, hv5, hbd⟩
      have hb5 := zA9 hbd
      clear hbd
      have e0 := b0''.below hb5 (by omega)
      have e1 := b1''.below hb5 (by omega)
      have e2 := b2''.below hb5 (by omega)
      have hz5 := e2.lt
      have j0 := e0.c0
      have j1 := e0.c1
      have j2 := e1.c1))
 go_wp2
 exact bodyPost_ret (v := .tuple #[.agg #[.bool (decide (fitZ (sg neg (val xs + val ys : Nat)) < 0)), .slice A2 n2 c2], .int .i64 (fitE (sg neg (val xs + val ys : Nat)))])
  (by simp [results, Tryz.results51, go_sem, j3', j4']) rfl
  ⟨A2, n2, c2, xs2, rfl, hs6.ret f2 _ _, H2.out.2, H2.out.1, by rw [HRW.out.2]; exact zA1 (zA (zA (zA (zA HRW.out.1 (by omega) hb1) (by omega) hb2) (by omega) hb5) (by omega) hb6) (show r <= r + 1 + 1 by omega) _ _⟩
theorem radd_more (neg neg' : Bool) (A A' : Option Addr) (n c n' c' : Nat) (xs ys : List Nat) (w : World) (h : Sl w w.heap.size A n c xs) (h' : Sl w w.heap.size A' n' c' ys) (hv : vld neg xs = true) (hv' : vld neg' ys = true) (ht : (neg == neg') = false) (hle : val ys <= val xs) :
 Calls Tryz.prog 51 #[.agg #[.bool neg, .slice A n c], .agg #[.bool neg', .slice A' n' c']] w (zB0 (fitZ (sg neg (val xs - val ys : Nat))) (fitE (sg neg (val xs - val ys : Nat))) w) := by
 have Hle := hI hle
 have Hcv : Hid (0 <= cmpv (val xs) (val ys)) := cmpv_ge hle
 clear hle
 have Hg := hI (And.intro (zA2 hv) (zA2 hv'))
 have hlx := h.len
 have hly := h'.len
 have hn : n <= 1000000 := by have := Hg.out.1.1; omega
 have hn' : n' <= 1000000 := by have := Hg.out.2.1; omega
 clear hlx hly
 go_enter Tryz.func51, Tryz.ntmps51
 go_wp2_with fail
 generalize hW : World.alloc (World.alloc (World.alloc w _) _) _ = W
 obtain ⟨hb, hz, b0, b1, b2⟩ := zA8 neg neg' A A' n c n' c' w W hW
 have hs := h.on hb
 have hs' := h'.on hb
 clear hW
 refine (zA3 _ _ _ _ _ xs _ hs (Nat.le_refl _)).mono ?_
 rintro e w1 ⟨rfl, hb1⟩
 have hz1 : w.heap.size + 1 + 1 < w1.heap.size := by have := hb1.size; omega
 have b0' := b0.below hb1 (by omega)
 have b1' := b1.below hb1 (by omega)
 have b2' := b2.below hb1 (by omega)
 have hs1 := hs.on hb1
 have hs1' := hs'.on hb1
 have q0 := b1'.c0
 have q1 := b1'.c1
 go_wp2_with fail
 refine (zA3 _ _ _ _ _ ys _ hs1' (Nat.le_refl _)).mono ?_
 rintro e w2 ⟨rfl, hb2⟩
 clear q0 q1
 have hz2 : w.heap.size + 1 + 1 < w2.heap.size := by have := hb2.size; omega
 have b0'' := b0'.below hb2 (by omega)
 have b1'' := b1'.below hb2 (by omega)
 have b2'' := b2'.below hb2 (by omega)
 have hs2 := hs1.on hb2
 have hs2' := hs1'.on hb2
 have k0 := b0''.c0
 have k1 := b0''.c1
 have k2 := b1''.c0
 have k3 := b1''.c1
 generalize hr : w.heap.size = r at *
 have HRW := hI (And.intro hb hr)
 clear hb hr
 go_wp2_with fail
 refine (zE6 _ _ _ _ _ _ _ _ xs ys _ hs2 hs2' Hg.out.1.2.1 Hg.out.2.2.1).mono ?_
 rintro e w0 ⟨rfl, q, rfl⟩
 have hcv := Hcv.out
 have gs : Sl (w2.drewN q) (w2.drewN q).heap.size A n c xs := hs2.drewN q
 have gs' : Sl (w2.drewN q) (w2.drewN q).heap.size A' n' c' ys := hs2'.drewN q
 have d0 := b0''.drewN q
 have d1 := b1''.drewN q
 have d2 := b2''.drewN q
 have hz3 : r + 1 + 1 < (w2.drewN q).heap.size := hz2
 have hb2' := zA6 hb2 q
 clear hs2 hs2' b0'' b1'' b2'' hz2 hb2 k0 k1 k2 k3
 generalize w2.drewN q = w2 at *
 have k0 := d0.c0
 have k1 := d0.c1
 have k2 := d1.c0
 have k3 := d1.c1
 have ne1 : r ≠ r + 1 + 1 := by omega
 have ne2 : r + 1 + 1 ≠ r := by omega
 go_wp2_with fail
 go_region_held3 (fun w' => w'.cell? ⟨r, 0, none⟩ = some (.bool neg) /\ w'.cell? ⟨r, 1, none⟩ = some (.slice A n c) /\ w'.cell? ⟨r + 1, 1, none⟩ = some (.slice A' n' c'))
  (go_keep)
  (first
   | (go_at_call 86
      have L := zD8 neg A1 n1 c1 xs1 w5 hs5 hx5
      rw [hv5] at L
      refine L.mono ?_
      clear L
      rintro e w6 ⟨A2, n2, c2, xs2, rfl, hs6, hx6, hv6, hb6⟩
      have f0 := e0.below hb6 (by omega)
      have f1 := e1.below hb6 (by omega)
      have f2 := e2.below hb6 (by omega)
      have j0' := f0.c0
      have j1' := f0.c1
      have j2' := f1.c1
      have j3' := f2.c0
      have j4' := f2.c1
      have j5' := f2.f 0
      have j6' := f2.f 1
      have H2 := hI (And.intro hv6 hx6)
      clear hv5 hv6 hx6)
   | (go_at_call 85
      refine (zG9 _ _ _ _ _ _ _ _ _ gs.drew gs'.drew Hg.out.2.2.1 Hle.out).mono ?_
      rintro e w5 ⟨A1, n1, c1, xs1, rfl, hs5, hx5, hv5, hbd⟩
      have hb5 := zA9 hbd
      clear hbd
      have e0 := d0.below hb5 (by omega)
      have e1 := d1.below hb5 (by omega)
      have e2 := d2.below hb5 (by omega)
      have hz5 := e2.lt
      have j0 := e0.c0
      have j1 := e0.c1
      have j2 := e1.c1))
 go_wp2
 exact bodyPost_ret (v := .tuple #[.agg #[.bool (decide (fitZ (sg neg (val xs - val ys : Nat)) < 0)), .slice A2 n2 c2], .int .i64 (fitE (sg neg (val xs - val ys : Nat)))])
  (by simp [results, Tryz.results51, go_sem, j3', j4']) rfl
  ⟨A2, n2, c2, xs2, rfl, hs6.ret f2 _ _, H2.out.2, H2.out.1, by rw [HRW.out.2]; exact zA1 (zA (zA (zA (zA HRW.out.1 (by omega) hb1) (by omega) hb2') (by omega) hb5) (by omega) hb6) (show r <= r + 1 + 1 by omega) _ _⟩
theorem radd_less (neg neg' : Bool) (A A' : Option Addr) (n c n' c' : Nat) (xs ys : List Nat) (w : World) (h : Sl w w.heap.size A n c xs) (h' : Sl w w.heap.size A' n' c' ys) (hv : vld neg xs = true) (hv' : vld neg' ys = true) (ht : (neg == neg') = false) (hle : val xs < val ys) :
 Calls Tryz.prog 51 #[.agg #[.bool neg, .slice A n c], .agg #[.bool neg', .slice A' n' c']] w (zB0 (fitZ (sg neg' (val ys - val xs : Nat))) (fitE (sg neg' (val ys - val xs : Nat))) w) := by
 have Hle := hI hle
 have Hcv : Hid (cmpv (val xs) (val ys) < 0) := by rw [Hid, zG6 hle]; decide
 clear hle
 have Hg := hI (And.intro (zA2 hv) (zA2 hv'))
 have hlx := h.len
 have hly := h'.len
 have hn : n <= 1000000 := by have := Hg.out.1.1; omega
 have hn' : n' <= 1000000 := by have := Hg.out.2.1; omega
 clear hlx hly
 go_enter Tryz.func51, Tryz.ntmps51
 go_wp2_with fail
 generalize hW : World.alloc (World.alloc (World.alloc w _) _) _ = W
 obtain ⟨hb, hz, b0, b1, b2⟩ := zA8 neg neg' A A' n c n' c' w W hW
 have hs := h.on hb
 have hs' := h'.on hb
 clear hW
 refine (zA3 _ _ _ _ _ xs _ hs (Nat.le_refl _)).mono ?_
 rintro e w1 ⟨rfl, hb1⟩
 have hz1 : w.heap.size + 1 + 1 < w1.heap.size := by have := hb1.size; omega
 have b0' := b0.below hb1 (by omega)
 have b1' := b1.below hb1 (by omega)
 have b2' := b2.below hb1 (by omega)
 have hs1 := hs.on hb1
 have hs1' := hs'.on hb1
 have q0 := b1'.c0
 have q1 := b1'.c1
 go_wp2_with fail
 refine (zA3 _ _ _ _ _ ys _ hs1' (Nat.le_refl _)).mono ?_
 rintro e w2 ⟨rfl, hb2⟩
 clear q0 q1
 have hz2 : w.heap.size + 1 + 1 < w2.heap.size := by have := hb2.size; omega
 have b0'' := b0'.below hb2 (by omega)
 have b1'' := b1'.below hb2 (by omega)
 have b2'' := b2'.below hb2 (by omega)
 have hs2 := hs1.on hb2
 have hs2' := hs1'.on hb2
 have k0 := b0''.c0
 have k1 := b0''.c1
 have k2 := b1''.c0
 have k3 := b1''.c1
 generalize hr : w.heap.size = r at *
 have HRW := hI (And.intro hb hr)
 clear hb hr
 go_wp2_with fail
 refine (zE6 _ _ _ _ _ _ _ _ xs ys _ hs2 hs2' Hg.out.1.2.1 Hg.out.2.2.1).mono ?_
 rintro e w0 ⟨rfl, q, rfl⟩
 have hcv := Hcv.out
 have gs : Sl (w2.drewN q) (w2.drewN q).heap.size A n c xs := hs2.drewN q
 have gs' : Sl (w2.drewN q) (w2.drewN q).heap.size A' n' c' ys := hs2'.drewN q
 have d0 := b0''.drewN q
 have d1 := b1''.drewN q
 have d2 := b2''.drewN q
 have hz3 : r + 1 + 1 < (w2.drewN q).heap.size := hz2
 have hb2' := zA6 hb2 q
 clear hs2 hs2' b0'' b1'' b2'' hz2 hb2 k0 k1 k2 k3
 generalize w2.drewN q = w2 at *
 have k0 := d0.c0
 have k1 := d0.c1
 have k2 := d1.c0
 have k3 := d1.c1
 have ne1 : r ≠ r + 1 + 1 := by omega
 have ne2 : r + 1 + 1 ≠ r := by omega
 go_wp2_with fail
 go_region_held3 (fun w' => w'.cell? ⟨r + 1, 0, none⟩ = some (.bool neg') /\ w'.cell? ⟨r, 1, none⟩ = some (.slice A n c) /\ w'.cell? ⟨r + 1, 1, none⟩ = some (.slice A' n' c'))
  (go_keep)
  (first
   | (go_at_call 86
      have L := zD8 neg' A1 n1 c1 xs1 w5 hs5 hx5
      rw [hv5] at L
      refine L.mono ?_
      clear L
      rintro e w6 ⟨A2, n2, c2, xs2, rfl, hs6, hx6, hv6, hb6⟩
      have f0 := e0.below hb6 (by omega)
      have f1 := e1.below hb6 (by omega)
      have f2 := e2.below hb6 (by omega)
      have j0' := f1.c0
      have j1' := f0.c1
      have j2' := f1.c1
      have j3' := f2.c0
      have j4' := f2.c1
      have j5' := f2.f 0
      have j6' := f2.f 1
      have H2 := hI (And.intro hv6 hx6)
      clear hv5 hv6 hx6)
   | (go_at_call 85
      refine (zG9 _ _ _ _ _ _ _ _ _ gs'.drew gs.drew Hg.out.1.2.1 (Nat.le_of_lt Hle.out)).mono ?_
      rintro e w5 ⟨A1, n1, c1, xs1, rfl, hs5, hx5, hv5, hbd⟩
      have hb5 := zA9 hbd
      clear hbd
      have e0 := d0.below hb5 (by omega)
      have e1 := d1.below hb5 (by omega)
      have e2 := d2.below hb5 (by omega)
      have hz5 := e2.lt
      have j0 := e1.c0
      have j1 := e0.c1
      have j2 := e1.c1))
 go_wp2
 exact bodyPost_ret (v := .tuple #[.agg #[.bool (decide (fitZ (sg neg' (val ys - val xs : Nat)) < 0)), .slice A2 n2 c2], .int .i64 (fitE (sg neg' (val ys - val xs : Nat)))])
  (by simp [results, Tryz.results51, go_sem, j3', j4']) rfl
  ⟨A2, n2, c2, xs2, rfl, hs6.ret f2 _ _, H2.out.2, H2.out.1, by rw [HRW.out.2]; exact zA1 (zA (zA (zA (zA HRW.out.1 (by omega) hb1) (by omega) hb2') (by omega) hb5) (by omega) hb6) (show r <= r + 1 + 1 by omega) _ _⟩
theorem radd_any (neg neg' : Bool) (A A' : Option Addr) (n c n' c' : Nat) (xs ys : List Nat) (w : World) (h : Sl w w.heap.size A n c xs) (h' : Sl w w.heap.size A' n' c' ys) :
 Calls Tryz.prog 51 #[.agg #[.bool neg, .slice A n c], .agg #[.bool neg', .slice A' n' c']] w
  (zB0 (opZ (vld neg xs && vld neg' ys) (sg neg (val xs) + sg neg' (val ys))) (opE (vld neg xs && vld neg' ys) (sg neg (val xs) + sg neg' (val ys))) w) := by
 rcases hv : vld neg xs with _ | _
 . exact radd_bad1 neg neg' A A' n c n' c' xs w h hv
 . rcases hv' : vld neg' ys with _ | _
   . exact radd_bad2 neg neg' A A' n c n' c' xs ys w h h' hv hv'
   . show Calls _ _ _ _ (zB0 (fitZ (sg neg (val xs) + sg neg' (val ys))) (fitE (sg neg (val xs) + sg neg' (val ys))) w)
     rcases ht : (neg == neg') with _ | _
     . rcases Nat.lt_or_ge (val xs) (val ys) with hlt | hge
       . have := radd_less neg neg' A A' n c n' c' xs ys w h h' hv hv' ht hlt
         rwa [sg_sub (beq_comm' ht) (Nat.le_of_lt hlt), Int.add_comm] at this
       . have := radd_more neg neg' A A' n c n' c' xs ys w h h' hv hv' ht hge
         rwa [sg_sub ht hge] at this
     . have := radd_same neg neg' A A' n c n' c' xs ys w h h' hv hv' ht
       obtain rfl : neg = neg' := by simpa using ht
       rwa [sg_add] at this
theorem neg_f (A : Option Addr) (n c : Nat) (xs : List Nat) (w : World) (h : Sl w w.heap.size A n c xs) (hx : Nz xs) (hp : 0 < n) :
 Calls Tryz.prog 89 #[.agg #[.bool false, .slice A n c]] w (RetI (sg true (val xs)) w) := by
 have Hx2 := hI hx
 have Ha := hI (zD3 true (val xs))
 have Hd := hI (show true = decide (sg true (val xs) < 0) by
  have hp' : 0 < val xs := zB4 hx (by rintro rfl; have := h.len; simp at this; omega)
  rw [zC7]; simp; omega)
 have hd : decide (0 < (n : Int)) = true := by simp; omega
 clear hx
 go_enter Tryz.func89, Tryz.ntmps89
 go_wp2_with fail
 generalize hW : World.alloc (World.alloc w _) _ = V
 obtain ⟨hb, hz, b0, b1⟩ := zF1 false A n c w V hW
 have hs := h.on hb
 clear hW
 have k0 := b0.c0
 have k1 := b0.c1
 have k3 := b1.c0
 have k4 := b1.c1
 have k5 := b1.f 0
 have k6 := b1.f 1
 have be := zA0 V (.cells #[] 64)
 have He := hI (Blk.new V 64 #[])
 have Hs := hI (hs.on be)
 have Hx0 := hI (b0.alloc (.cells #[] 64))
 have Hx := hI (b1.alloc (.cells #[] 64))
 have HB0 := zA hb hb.size be
 have HB := hI (⟨HB0.os, HB0.tape, HB0.output, HB0.size, HB0.block⟩ : Below w.heap.size w (V.alloc (.cells #[] 64)).drew)
 clear HB0
 have hsz := hI hb.size
 have ne0 : w.heap.size ≠ V.heap.size := by omega
 have ne1 : w.heap.size + 1 ≠ V.heap.size := by omega
 have w0 := World.new_ne V _ k0
 have w1 := World.new_ne V _ k1
 have w3 := World.new_ne V _ k3
 have w4 := World.new_ne V _ k4
 go_region_held3 (fun w' => w'.cell? ⟨w.heap.size, 0, none⟩ = some (.bool false) /\ w'.cell? ⟨w.heap.size, 1, none⟩ = some (.slice A n c))
  (first | exact ⟨p0, p1⟩ | go_keep)
  ((refine zL5 (by rfl) _ _ (by rfl) V.heap.size n c _ _ xs (by rfl) He.out.drew (by rfl) Hs.out.drew ?_; intro A' c' w' hs' hg'; have hx' : Bx w' (w.heap.size + 1) false none 0 0 := Blk.grown Hx.out.drew hg' (by simpa using ne1); have hx0 : Bx w' w.heap.size false A n c := Blk.grown Hx0.out.drew hg' (by simpa using ne0); have p0 := hx0.c0; have p1 := hx0.c1; have m0 := hx'.c0; have m1 := hx'.c1; have m2 := hx'.f 0; have m3 := hx'.f 1))
 go_wp2
 exact bodyPost_ret (v := .agg #[.bool true, .slice A' n c']) (by simp [results, Tryz.results89, go_sem, m0, m1]) rfl
  ⟨A', n, c', xs, zK1 Hd.out, hs'.ret hx' _ _, Hx2.out, Ha.out.symm, zA1 (zB3 HB.out hg' (by omega) (Nat.le_trans hsz.out be.size)) (by omega) _ _⟩
theorem neg_0 (A : Option Addr) (c : Nat) (xs : List Nat) (w : World) (h : Sl w w.heap.size A 0 c xs) (hx : Nz xs) :
 Calls Tryz.prog 89 #[.agg #[.bool false, .slice A 0 c]] w (RetI (sg false (val xs)) w) := by
 have Hx2 := hI hx
 have Ha := hI (zD3 false (val xs))
 have Hd := hI (show false = decide (sg false (val xs) < 0) by
  rw [zB7]; simp)
 clear hx
 go_enter Tryz.func89, Tryz.ntmps89
 go_wp2_with fail
 generalize hW : World.alloc (World.alloc w _) _ = V
 obtain ⟨hb, hz, b0, b1⟩ := zF1 false A 0 c w V hW
 have hs := h.on hb
 clear hW
 have k0 := b0.c0
 have k1 := b0.c1
 have k3 := b1.c0
 have k4 := b1.c1
 have k5 := b1.f 0
 have k6 := b1.f 1
 have be := zA0 V (.cells #[] 64)
 have He := hI (Blk.new V 64 #[])
 have Hs := hI (hs.on be)
 have Hx0 := hI (b0.alloc (.cells #[] 64))
 have Hx := hI (b1.alloc (.cells #[] 64))
 have HB0 := zA hb hb.size be
 have HB := hI (⟨HB0.os, HB0.tape, HB0.output, HB0.size, HB0.block⟩ : Below w.heap.size w (V.alloc (.cells #[] 64)).drew)
 clear HB0
 have hsz := hI hb.size
 have ne0 : w.heap.size ≠ V.heap.size := by omega
 have ne1 : w.heap.size + 1 ≠ V.heap.size := by omega
 have w0 := World.new_ne V _ k0
 have w1 := World.new_ne V _ k1
 have w3 := World.new_ne V _ k3
 have w4 := World.new_ne V _ k4
 go_region_held3 (fun w' => w'.cell? ⟨w.heap.size, 0, none⟩ = some (.bool false) /\ w'.cell? ⟨w.heap.size, 1, none⟩ = some (.slice A 0 c))
  (first | exact ⟨p0, p1⟩ | go_keep)
  ((refine zL5 (by rfl) _ _ (by rfl) V.heap.size 0 c _ _ xs (by rfl) He.out.drew (by rfl) Hs.out.drew ?_; intro A' c' w' hs' hg'; have hx' : Bx w' (w.heap.size + 1) false none 0 0 := Blk.grown Hx.out.drew hg' (by simpa using ne1); have hx0 : Bx w' w.heap.size false A 0 c := Blk.grown Hx0.out.drew hg' (by simpa using ne0); have p0 := hx0.c0; have p1 := hx0.c1; have m0 := hx'.c0; have m1 := hx'.c1; have m2 := hx'.f 0; have m3 := hx'.f 1))
 go_wp2
 exact bodyPost_ret (v := .agg #[.bool false, .slice A' 0 c']) (by simp [results, Tryz.results89, go_sem, m0, m1]) rfl
  ⟨A', 0, c', xs, zK1 Hd.out, hs'.ret hx' _ _, Hx2.out, Ha.out.symm, zA1 (zB3 HB.out hg' (by omega) (Nat.le_trans hsz.out be.size)) (by omega) _ _⟩
theorem neg_t (A : Option Addr) (n c : Nat) (xs : List Nat) (w : World) (h : Sl w w.heap.size A n c xs) (hx : Nz xs) :
 Calls Tryz.prog 89 #[.agg #[.bool true, .slice A n c]] w (RetI (sg false (val xs)) w) := by
 have Hx2 := hI hx
 have Ha := hI (zD3 false (val xs))
 have Hd := hI (show false = decide (sg false (val xs) < 0) by
  rw [zB7]; simp)
 clear hx
 go_enter Tryz.func89, Tryz.ntmps89
 go_wp2_with fail
 generalize hW : World.alloc (World.alloc w _) _ = V
 obtain ⟨hb, hz, b0, b1⟩ := zF1 true A n c w V hW
 have hs := h.on hb
 clear hW
 have k0 := b0.c0
 have k1 := b0.c1
 have k3 := b1.c0
 have k4 := b1.c1
 have k5 := b1.f 0
 have k6 := b1.f 1
 have be := zA0 V (.cells #[] 64)
 have He := hI (Blk.new V 64 #[])
 have Hs := hI (hs.on be)
 have Hx0 := hI (b0.alloc (.cells #[] 64))
 have Hx := hI (b1.alloc (.cells #[] 64))
 have HB0 := zA hb hb.size be
 have HB := hI (⟨HB0.os, HB0.tape, HB0.output, HB0.size, HB0.block⟩ : Below w.heap.size w (V.alloc (.cells #[] 64)).drew)
 clear HB0
 have hsz := hI hb.size
 have ne0 : w.heap.size ≠ V.heap.size := by omega
 have ne1 : w.heap.size + 1 ≠ V.heap.size := by omega
 have w0 := World.new_ne V _ k0
 have w1 := World.new_ne V _ k1
 have w3 := World.new_ne V _ k3
 have w4 := World.new_ne V _ k4
 refine wp_region_held_drew (S := fun w' => w'.cell? ⟨w.heap.size, 0, none⟩ = some (.bool true) /\ w'.cell? ⟨w.heap.size, 1, none⟩ = some (.slice A n c)) (by kernel_rfl) (by (try dsimp only); go_keep) (fun hHeld => ?_)
 refine wpAnyH_take (i := 0) (v := .pointer (some ⟨w.heap.size, 0, none⟩)) rfl (by kernel_rfl) (by kernel_rfl) (by kernel_rfl) (fun _ _ _ h => h) (Or.inl ⟨by rfl, by intro w hSw; (try dsimp only at hSw); go_simp⟩) (by assumption) ?_
 try simp only [Act.put, List.setIfInBounds_toArray, List.set_cons_zero, List.set_cons_succ]
 refine wpAnyH_take (i := 1) (v := .bool true) rfl (by kernel_rfl) (by kernel_rfl) (by kernel_rfl) (fun _ _ _ h => h) (Or.inl ⟨by rfl, by intro w hSw; (try dsimp only at hSw); go_simp⟩) (by assumption) ?_
 try simp only [Act.put, List.setIfInBounds_toArray, List.set_cons_zero, List.set_cons_succ]
 refine wpAnyH_take (i := 2) (v := .bool false) rfl (by kernel_rfl) (by kernel_rfl) (by kernel_rfl) (fun _ _ _ h => h) (Or.inl ⟨by rfl, by intro w hSw; (try dsimp only at hSw); go_simp⟩) (by assumption) ?_
 try simp only [Act.put, List.setIfInBounds_toArray, List.set_cons_zero, List.set_cons_succ]
 refine wpAnyH_take (i := 3) (v := .bool false) rfl (by kernel_rfl) (by kernel_rfl) (by kernel_rfl) (fun _ _ _ h => h) (Or.inl ⟨by rfl, by intro w hSw; (try dsimp only at hSw); go_simp⟩) (by assumption) ?_
 try simp only [Act.put, List.setIfInBounds_toArray, List.set_cons_zero, List.set_cons_succ]
 refine wpAnyH_take (i := 4) (v := undef) rfl (by kernel_rfl) (by kernel_rfl) (by kernel_rfl) (fun _ _ _ h => h) (Or.inr ⟨by rfl, rfl⟩) (by assumption) ?_
 try simp only [Act.put, List.setIfInBounds_toArray, List.set_cons_zero, List.set_cons_succ]
 refine wpAnyH_take (i := 5) (v := undef) rfl (by kernel_rfl) (by kernel_rfl) (by kernel_rfl) (fun _ _ _ h => h) (Or.inr ⟨by rfl, rfl⟩) (by assumption) ?_
 try simp only [Act.put, List.setIfInBounds_toArray, List.set_cons_zero, List.set_cons_succ]
 refine wpAnyH_take (i := 6) (v := undef) rfl (by kernel_rfl) (by kernel_rfl) (by kernel_rfl) (fun _ _ _ h => h) (Or.inr ⟨by rfl, rfl⟩) (by assumption) ?_
 try simp only [Act.put, List.setIfInBounds_toArray, List.set_cons_zero, List.set_cons_succ]
 refine wpAnyH_take (i := 7) (v := undef) rfl (by kernel_rfl) (by kernel_rfl) (by kernel_rfl) (fun _ _ _ h => h) (Or.inr ⟨by rfl, rfl⟩) (by assumption) ?_
 try simp only [Act.put, List.setIfInBounds_toArray, List.set_cons_zero, List.set_cons_succ]
 refine wpAnyH_take (i := 8) (v := .bool false) rfl (by kernel_rfl) (by kernel_rfl) (by kernel_rfl) (fun _ _ _ h => h) (Or.inl ⟨by rfl, by intro w hSw; (try dsimp only at hSw); go_simp⟩) (by assumption) ?_
 try simp only [Act.put, List.setIfInBounds_toArray, List.set_cons_zero, List.set_cons_succ]
 refine wpAnyH_take (i := 10) (v := .pointer (some ⟨w.heap.size, 1, none⟩)) rfl (by kernel_rfl) (by kernel_rfl) (by kernel_rfl) (fun _ _ _ h => h) (Or.inl ⟨by rfl, by intro w hSw; (try dsimp only at hSw); go_simp⟩) (by assumption) ?_
 try simp only [Act.put, List.setIfInBounds_toArray, List.set_cons_zero, List.set_cons_succ]
 refine wpAnyH_take (i := 11) (v := .slice A n c) rfl (by kernel_rfl) (by kernel_rfl) (by kernel_rfl) (fun _ _ _ h => h) (Or.inl ⟨by rfl, by intro w hSw; (try dsimp only at hSw); go_simp⟩) (by assumption) ?_
 try simp only [Act.put, List.setIfInBounds_toArray, List.set_cons_zero, List.set_cons_succ]
 refine wpAnyH_ready (rs := [9]) (by kernel_rfl) (by simp) (AllReadyH.cons rfl (fun K hK => ?_) AllReadyH.nil)
 go_simp
 refine hK.out _ _ (by (try dsimp only); go_keep) (fun hHeld2 => ?_)
 clear hK K
 try simp only [Act.put, List.setIfInBounds_toArray, List.set_cons_zero, List.set_cons_succ]
 refine wpAnyH_ready (rs := [12]) (by kernel_rfl) (by simp) (AllReadyH.cons rfl (fun K hK => ?_) AllReadyH.nil)
 refine zL5 (by rfl) _ _ (by rfl) V.heap.size n c _ _ xs (by rfl) He.out.drew (by rfl) Hs.out.drew ?_
 intro A' c' w' hs' hg'
 have hx' : Bx w' (w.heap.size + 1) false none 0 0 := Blk.grown Hx.out.drew hg' (by simpa using ne1)
 have hx0 : Bx w' w.heap.size true A n c := Blk.grown Hx0.out.drew hg' (by simpa using ne0)
 have p0 := hx0.c0
 have p1 := hx0.c1
 have m0 := hx'.c0
 have m1 := hx'.c1
 have m2 := hx'.f 0
 have m3 := hx'.f 1
 refine hK.out _ _ (⟨p0, p1⟩) (fun hHeld3 => ?_)
 clear hK K
 try simp only [Act.put, List.setIfInBounds_toArray, List.set_cons_zero, List.set_cons_succ]
 refine wpAnyH_take (i := 13) (v := .agg #[.bool false, .slice A' n c']) rfl (by kernel_rfl) (by kernel_rfl) (by kernel_rfl) (fun _ _ _ h => h) (Or.inl ⟨by rfl, by intro w hSw; (try dsimp only at hSw); go_simp⟩) (by assumption) ?_
 try simp only [Act.put, List.setIfInBounds_toArray, List.set_cons_zero, List.set_cons_succ]
 refine wpAnyH_ready (rs := [14]) (by kernel_rfl) (by simp) (AllReadyH.cons rfl (fun K hK => ?_) AllReadyH.nil)
 go_simp
 refine hK.out _ _ (by (try dsimp only); go_keep) (fun hHeld4 => ?_)
 clear hK K
 try simp only [Act.put, List.setIfInBounds_toArray, List.set_cons_zero, List.set_cons_succ]
 refine wpAnyH_done (by kernel_rfl) ?_ _
 go_wp2
 exact bodyPost_ret (v := .agg #[.bool false, .slice A' n c']) (by simp [results, Tryz.results89, go_sem, m0, m1]) rfl
  ⟨A', n, c', xs, zK1 Hd.out, hs'.ret hx' _ _, Hx2.out, Ha.out.symm, zA1 (zB3 HB.out hg' (by omega) (Nat.le_trans hsz.out be.size)) (by omega) _ _⟩
theorem neg_any (neg : Bool) (A : Option Addr) (n c : Nat) (xs : List Nat) (w : World) (h : Sl w w.heap.size A n c xs) (hx : Nz xs) :
 Calls Tryz.prog 89 #[.agg #[.bool neg, .slice A n c]] w (RetI (- sg neg (val xs)) w) := by
 cases neg with
 | true => have := neg_t A n c xs w h hx; rwa [show sg false (val xs) = - sg true (val xs) by rw [zC7, zB7]; omega] at this
 | false =>
   rcases Nat.eq_zero_or_pos n with rfl | hp
   . have := neg_0 A c xs w h hx
     have e : xs = [] := List.eq_nil_of_length_eq_zero h.len
     subst e
     rwa [show sg false (val []) = - sg false (val []) by rw [zB7, zD6]; rfl] at this
   . have := neg_f A n c xs w h hx hp; rwa [show sg true (val xs) = - sg false (val xs) by rw [zC7, zB7]] at this
theorem rsub_bad1 (neg neg' : Bool) (A A' : Option Addr) (n c n' c' : Nat) (xs : List Nat) (w : World) (h : Sl w w.heap.size A n c xs) (hv : vld neg xs = false) :
 Calls Tryz.prog 53 #[.agg #[.bool neg, .slice A n c], .agg #[.bool neg', .slice A' n' c']] w (zB0 0 1 w) := by
 go_enter Tryz.func53, Tryz.ntmps53
 go_wp2_with fail
 generalize hW : World.alloc (World.alloc (World.alloc w _) _) _ = W
 obtain ⟨hb, hz, b0, b1, b2⟩ := zA8 neg neg' A A' n c n' c' w W hW
 have hs := h.on hb
 clear hW
 refine (zA3 _ _ _ _ _ xs _ hs (Nat.le_refl _)).mono ?_
 rintro e w1 ⟨rfl, hb1⟩
 have b2' := b2.below hb1 (by omega)
 have k3 := b2'.c0
 have k4 := b2'.c1
 have k5 := b2'.f 0
 have k6 := b2'.f 1
 generalize hr : w.heap.size = r at *
 have HRW := hI (And.intro hb hr)
 clear hb hr
 go_wp2
 exact bodyPost_ret (v := .tuple #[.agg #[.bool false, .slice none 0 0], .int .i64 1]) (by simp [results, Tryz.results53, go_sem, k3, k4]) rfl
  ⟨none, 0, 0, [], rfl, Sl.nil _ _, Nz.nil, rfl, by rw [HRW.out.2]; exact zA1 (zA HRW.out.1 (by omega) hb1) (show r <= r + 1 + 1 by omega) _ _⟩
theorem rsub_bad2 (neg neg' : Bool) (A A' : Option Addr) (n c n' c' : Nat) (xs ys : List Nat) (w : World) (h : Sl w w.heap.size A n c xs) (h' : Sl w w.heap.size A' n' c' ys) (hv : vld neg xs = true) (hv' : vld neg' ys = false) :
 Calls Tryz.prog 53 #[.agg #[.bool neg, .slice A n c], .agg #[.bool neg', .slice A' n' c']] w (zB0 0 1 w) := by
 go_enter Tryz.func53, Tryz.ntmps53
 go_wp2_with fail
 generalize hW : World.alloc (World.alloc (World.alloc w _) _) _ = W
 obtain ⟨hb, hz, b0, b1, b2⟩ := zA8 neg neg' A A' n c n' c' w W hW
 have hs := h.on hb
 have hs' := h'.on hb
 clear hW
 refine (zA3 _ _ _ _ _ xs _ hs (Nat.le_refl _)).mono ?_
 rintro e w1 ⟨rfl, hb1⟩
 have hz1 : w.heap.size + 1 + 1 < w1.heap.size := by have := hb1.size; omega
 have b1' := b1.below hb1 (by omega)
 have b2' := b2.below hb1 (by omega)
 have q0 := b1'.c0
 have q1 := b1'.c1
 go_wp2_with fail
 refine (zA3 _ _ _ _ _ ys _ (hs'.on hb1) (Nat.le_refl _)).mono ?_
 rintro e w2 ⟨rfl, hb2⟩
 clear q0 q1
 have b2'' := b2'.below hb2 (by omega)
 have k3 := b2''.c0
 have k4 := b2''.c1
 have k5 := b2''.f 0
 have k6 := b2''.f 1
 generalize hr : w.heap.size = r at *
 have HRW := hI (And.intro hb hr)
 clear hb hr
 go_wp2
 exact bodyPost_ret (v := .tuple #[.agg #[.bool false, .slice none 0 0], .int .i64 1]) (by simp [results, Tryz.results53, go_sem, k3, k4]) rfl
  ⟨none, 0, 0, [], rfl, Sl.nil _ _, Nz.nil, rfl, by rw [HRW.out.2]; exact zA1 (zA (zA HRW.out.1 (by omega) hb1) (by omega) hb2) (show r <= r + 1 + 1 by omega) _ _⟩
theorem vld_opp {neg : Bool} {xs ys : List Nat} (h : vld neg xs = true) (hy : Ok ys) (ny : Nz ys) (e : val ys = (-sg neg (val xs)).natAbs) (hx : Ok xs) : vld (decide (-sg neg (val xs) < 0)) ys = true := by
 have hl := zA2 h
 have hv : val ys = val xs := by rw [e, Int.natAbs_neg, zD3]
 refine vld_of hy ny ?_ ?_
 . rw [hv]; exact (zC3 hx hl.2.1).2 hl.1
 . intro hd
   have hd' : -sg neg (val xs) < 0 := of_decide_eq_true hd
   rw [e]; omega
theorem neg_z (neg : Bool) (A : Option Addr) (n c : Nat) (xs : List Nat) (w : World) (h : Sl w w.heap.size A n c xs) (hx : Nz xs) (u : Int) (hu : -sg neg (val xs) = u) :
 Calls Tryz.prog 89 #[.agg #[.bool neg, .slice A n c]] w (RetI u w) := hu ▸ neg_any neg A n c xs w h hx
theorem radd_opp (neg neg' : Bool) (A A1 : Option Addr) (n c n1 c1 : Nat) (xs ys xs1 : List Nat) (w : World) (h : Sl w w.heap.size A n c xs) (h1 : Sl w w.heap.size A1 n1 c1 xs1) (ny : Nz xs1)
 (u z : Int) (hu : -sg neg' (val ys) = u) (hz : sg neg (val xs) - sg neg' (val ys) = z)
 (e : val xs1 = u.natAbs) (hv : vld neg xs = true) (hv' : vld neg' ys = true) (hy : Ok ys) :
 Calls Tryz.prog 51 #[.agg #[.bool neg, .slice A n c], .agg #[.bool (decide (u < 0)), .slice A1 n1 c1]] w (zB0 (fitZ z) (fitE z) w) := by
 subst hu
 subst hz
 have hvo := vld_opp hv' h1.ok ny e hy
 have L := radd_any neg (decide (-sg neg' (val ys) < 0)) A A1 n c n1 c1 xs xs1 w h h1
 rw [hv, hvo, sg_dec e, <- Int.sub_eq_add_neg] at L
 exact L
theorem rsub_good (neg neg' : Bool) (A A' : Option Addr) (n c n' c' : Nat) (xs ys : List Nat) (w : World) (h : Sl w w.heap.size A n c xs) (h' : Sl w w.heap.size A' n' c' ys) (hv : vld neg xs = true) (hv' : vld neg' ys = true) (u z : Int) (hu : -sg neg' (val ys) = u) (hz : sg neg (val xs) - sg neg' (val ys) = z) :
 Calls Tryz.prog 53 #[.agg #[.bool neg, .slice A n c], .agg #[.bool neg', .slice A' n' c']] w (zB0 (fitZ z) (fitE z) w) := by
 have Hu := hI hu
 have Hz := hI hz
 clear hu hz
 have Hg := hI (And.intro hv hv')
 go_enter Tryz.func53, Tryz.ntmps53
 go_wp2_with fail
 generalize hW : World.alloc (World.alloc (World.alloc w _) _) _ = W
 obtain ⟨hb, hz, b0, b1, b2⟩ := zA8 neg neg' A A' n c n' c' w W hW
 have hs := h.on hb
 have hs' := h'.on hb
 clear hW
 refine (zA3 _ _ _ _ _ xs _ hs (Nat.le_refl _)).mono ?_
 rintro e w1 ⟨rfl, hb1⟩
 have hz1 : w.heap.size + 1 + 1 < w1.heap.size := by have := hb1.size; omega
 have b0' := b0.below hb1 (by omega)
 have b1' := b1.below hb1 (by omega)
 have b2' := b2.below hb1 (by omega)
 have hs1 := hs.on hb1
 have hs1' := hs'.on hb1
 have q0 := b1'.c0
 have q1 := b1'.c1
 rw [hv]
 go_wp2_with fail
 refine (zA3 _ _ _ _ _ ys _ hs1' (Nat.le_refl _)).mono ?_
 rintro e w2 ⟨rfl, hb2⟩
 clear q0 q1
 have hz2 : w.heap.size + 1 + 1 < w2.heap.size := by have := hb2.size; omega
 have d0 := b0'.below hb2 (by omega)
 have d1 := b1'.below hb2 (by omega)
 have d2 := b2'.below hb2 (by omega)
 have gs := hs1.on hb2
 have gs' := hs1'.on hb2
 rw [hv']
 clear hv hv'
 have HB := hI (zA (zA hb (by omega) hb1) (by omega) hb2)
 clear hb hb1 hb2 b0 b1 b2 b0' b1' b2' hs hs' hs1 hs1'
 generalize hr : w.heap.size = r at *
 have HRW := hI (And.intro HB.out hr)
 clear HB hr
 have k0 := d0.c0
 have k1 := d0.c1
 have k2 := d1.c0
 have k3 := d1.c1
 go_wp2_with fail
 have ne1 : r ≠ r + 1 + 1 := by omega
 have ne2 : r + 1 + 1 ≠ r := by omega
 go_region_held3 (fun w' => w'.cell? ⟨r, 0, none⟩ = some (.bool neg) /\ w'.cell? ⟨r, 1, none⟩ = some (.slice A n c) /\ w'.cell? ⟨r + 1, 0, none⟩ = some (.bool neg') /\ w'.cell? ⟨r + 1, 1, none⟩ = some (.slice A' n' c'))
  (go_keep)
  (first
   | (go_at_call 89
      refine (neg_z _ _ _ _ ys _ gs'.drew (zA2 Hg.out.2).2.1 u Hu.out).mono ?_
      rintro e w5 ⟨A1, n1, c1, xs1, rfl, hs5, hx5, hv5, hbd⟩
      have hb5 := zA9 hbd
      clear hbd
      have e0 := d0.below hb5 (by omega)
      have e1 := d1.below hb5 (by omega)
      have e2 := d2.below hb5 (by omega)
      have hz5 := e2.lt
      have gs5 := gs.on hb5
      have Hv5 := hI hv5
      have j0 := e0.c0
      have j1 := e0.c1
      have j2 := e1.c0
      have j3 := e1.c1
      clear hv5)
   | (go_at_call 51
      refine (radd_opp neg neg' A A1 n c n1 c1 xs ys xs1 w5 gs5 hs5 hx5 u z Hu.out Hz.out Hv5.out Hg.out.1 Hg.out.2 gs'.ok).mono ?_
      rintro e w6 ⟨A2, n2, c2, xs2, rfl, hs6, hx6, hv6, hb6⟩
      have f0 := e0.below hb6 (by omega)
      have f1 := e1.below hb6 (by omega)
      have f2 := e2.below hb6 (by omega)
      have j0' := f0.c0
      have j1' := f0.c1
      have j2' := f1.c0
      have j3' := f1.c1
      have m3' := f2.c0
      have m4' := f2.c1
      have m5' := f2.f 0
      have m6' := f2.f 1
      have H2 := hI (And.intro hv6 hx6)
      clear hv6 hx6))
 go_wp2
 exact bodyPost_ret (v := .tuple #[.agg #[.bool (decide (fitZ z < 0)), .slice A2 n2 c2], .int .i64 (fitE z)])
  (by simp [results, Tryz.results53, go_sem, m3', m4']) rfl
  ⟨A2, n2, c2, xs2, rfl, hs6.ret f2 _ _, H2.out.2, H2.out.1, by rw [HRW.out.2]; exact zA1 (zA (zA HRW.out.1 (by omega) hb5) (by omega) hb6) (show r <= r + 1 + 1 by omega) _ _⟩
theorem rsub_any (neg neg' : Bool) (A A' : Option Addr) (n c n' c' : Nat) (xs ys : List Nat) (w : World) (h : Sl w w.heap.size A n c xs) (h' : Sl w w.heap.size A' n' c' ys) :
 Calls Tryz.prog 53 #[.agg #[.bool neg, .slice A n c], .agg #[.bool neg', .slice A' n' c']] w
  (zB0 (opZ (vld neg xs && vld neg' ys) (sg neg (val xs) - sg neg' (val ys))) (opE (vld neg xs && vld neg' ys) (sg neg (val xs) - sg neg' (val ys))) w) := by
 rcases hv : vld neg xs with _ | _
 . exact rsub_bad1 neg neg' A A' n c n' c' xs w h hv
 . rcases hv' : vld neg' ys with _ | _
   . exact rsub_bad2 neg neg' A A' n c n' c' xs ys w h h' hv hv'
   . exact rsub_good neg neg' A A' n c n' c' xs ys w h h' hv hv' _ _ rfl rfl
theorem timesr_rel {w wr : World} {zs zr ys : List Nat} {g off k cy f : Nat} (hlt : off + k < zr.length) (Hrow : Hid (Row wr g zr)) (Hok : Hid (Ok zr)) (Hsame : Hid (Same zs zr off (off + k)))
 (Hval : Hid (wv zr off k + 4294967296 ^ k * cy = wv zs off k + val (ys.take k) * f)) (Hb : Hid (Below g w wr)) (s : Nat) (hs : s = f * lim ys k + lim zr (off + k) + cy) :
 Hid (Row (wr.setCell ⟨g, off + k, none⟩ (.int .u32 ((s % 4294967296 : Nat) : Int))) g (zr.set (off + k) (s % 4294967296))) /\ Hid (Ok (zr.set (off + k) (s % 4294967296))) ∧
 Hid (Same zs (zr.set (off + k) (s % 4294967296)) off (off + (k + 1))) ∧
 Hid (wv (zr.set (off + k) (s % 4294967296)) off (k + 1) + 4294967296 ^ (k + 1) * (s / 4294967296) = wv zs off (k + 1) + val (ys.take (k + 1)) * f) ∧
 Hid (Below g w (wr.setCell ⟨g, off + k, none⟩ (.int .u32 ((s % 4294967296 : Nat) : Int)))) := by
 refine ⟨Hrow.out.set _ _, Hok.out.set _ (by omega), Hsame.out.snoc _, ?_, Hb.out.setCell (Nat.le_refl _) _⟩
 rw [Hid, zD2 hlt, zE, zB, Nat.pow_succ, Nat.add_mul, Nat.mul_assoc (4294967296 ^ k) (lim ys k) f, Nat.mul_comm (lim ys k) f]
 have e := Hsame.out.2 (off + k) (.inr (Nat.le_refl _))
 exact zS2 (b := f * lim ys k) (by rw [hs, e]; generalize f * lim ys k = p; omega) Hval.out
theorem hid_drewN' {w : World} {g i : Nat} {v : Value} {zs' : List Nat} {P Q R : Prop} {wr : World}
 (h : Hid (Row (wr.setCell ⟨g, i, none⟩ v) g zs') /\ P /\ Q /\ R /\ Hid (Below g w (wr.setCell ⟨g, i, none⟩ v))) (n : Nat) :
 Hid (Row ((wr.drewN n).setCell ⟨g, i, none⟩ v) g zs') /\ P /\ Q /\ R /\ Hid (Below g w ((wr.drewN n).setCell ⟨g, i, none⟩ v)) :=
 ⟨h.1.out, h.2.1, h.2.2.1, h.2.2.2.1, zA6 h.2.2.2.2.out n⟩
theorem zN1 (A A' : Option Addr) (n c n' c' : Nat) (xs ys : List Nat) (w : World) (h : Sl w w.heap.size A n c xs) (h' : Sl w w.heap.size A' n' c' ys) (hn : n <= 1000000) (hn' : n' <= 1000000) :
 Calls Tryz.prog 88 #[.slice A n c, .slice A' n' c'] w (zK9 (val xs * val ys) w) := by
 have hmk := zD7 ((n : Int) + (n' : Int)) (n + n') (by omega) (by omega)
 have Hrow := hI (Row.made w (n + n'))
 have Hb0 := hI ((Below.refl w.heap.size w).alloc (Nat.le_refl _) (.cells (zrow (n + n')) 64))
 have Hl := hI h.len
 go_enter Tryz.func88, Tryz.ntmps88
 go_wp2
 go_loopw [6] (fun iv wr => ∃ (k : Nat) (zr : List Nat), k <= n /\ iv = .int .i64 k /\ Hid (zr.length = n + n') /\ Hid (Row wr w.heap.size zr) /\ Hid (Ok zr) ∧
  Hid (wv zr 0 (k + n') = val (xs.take k) * val ys) /\ Hid (∀ i, k + n' <= i -> lim zr i = 0) /\ Hid (Below w.heap.size w wr)) (fun iv _ => n - (intOf iv).toNat)
 case atStart => exact ⟨0, List.replicate (n + n') 0, by omega, rfl, by rw [Hid, List.length_replicate], Hrow.out, zD9 _, by rw [Hid, List.take_zero, zD6, Nat.zero_mul, zR4], fun i _ => zG3 _ _, Hb0.out⟩
 case round =>
  obtain ⟨k, zr, hk, rfl, Hlen, Hrw, Hok, Hval, Hrest, Hb⟩ := hrel
  obtain ⟨wo, rfl⟩ : ∃ wo : World, wo = wr := ⟨_, rfl⟩
  by_cases hkn : k < n
  . have hx := h.ok.lim k
    have i0 : (0 : Int) <= (k : Int) := by omega
    have i1 : (k : Int) < (n : Int) := by omega
    go_wp2
    go_loopw [7, 8, 9] (fun cv jv sv wq => ∃ (j cy : Nat) (zq : List Nat), j <= n' /\ jv = .int .i64 j /\ cv = .int .u64 cy /\ cy < 4294967296 /\ Hid (Row wq w.heap.size zq) /\ Hid (Ok zq) /\ Hid (Same zr zq k (k + j)) ∧
     Hid (wv zq k j + 4294967296 ^ j * cy = wv zr k j + val (ys.take j) * lim xs k) /\ Hid (Below w.heap.size w wq)) (fun _ jv _ _ => n' - (intOf jv).toNat)
    case atStart => exact ⟨0, 0, zr, by omega, rfl, rfl, by omega, Hrw.out, Hok.out, Same.refl _ _ _, by rw [Hid, List.take_zero, zD6, Nat.zero_mul, Nat.mul_zero], Hb.out⟩
    case round =>
     obtain ⟨j, cy, zq, hj, rfl, rfl, hcy, Hrq, Hokq, Hsame, Hvq, Hbq⟩ := hrel
     have lq : zq.length = n + n' := by rw [Hsame.out.1]; exact Hlen.out
     have Lq := hI lq
     clear lq
     by_cases hjn : j < n'
     . obtain ⟨ad, rfl, hadb, hc2⟩ := (h.below Hbq.out).cell hkn
       obtain ⟨ad', rfl, hadb', hc3⟩ := (h'.below Hbq.out).cell hjn
       have hlt : k + j < zq.length := by rw [Lq.out]; omega
       have hc1 := Hrq.out.cell hlt
       have hf1 := Hrq.out.free (k + j)
       have ht := Hokq.out.lim (k + j)
       have hy := h'.ok.lim j
       have R := hI (timesr_rel hlt Hrq Hokq Hsame Hvq Hbq _ rfl)
       have hbd := mul_bd hx hy hcy ht
       have b1 : ((lim xs k : Nat) : Int) * ((lim ys j : Nat) : Int) <= 18446744065119617025 := by have := hbd.1; rw [<- Int.natCast_mul]; omega
       have b0 : 0 <= ((lim xs k : Nat) : Int) * ((lim ys j : Nat) : Int) := by rw [<- Int.natCast_mul]; omega
       have hbd2 := hbd.2
       have i2 : (j : Int) < (n' : Int) := by omega
       have i3 : (0 : Int) <= (j : Int) := by omega
       have i4 : (k : Int) + (j : Int) < ((n + n' : Nat) : Int) := by omega
       have i5 : (0 : Int) <= (k : Int) + (j : Int) := by omega
       have i6 : ((k : Int) + (j : Int)).toNat = k + j := by omega
       clear hbd
       go_wp2_with fail
       go_quiet (fail)
       go_wp2
       rw [show Value.int .u32 ((↑(lim xs k) * ↑(lim ys j) + ↑(lim zq (k + j)) + ↑cy) % 4294967296) = Value.int .u32 (((lim xs k * lim ys j + lim zq (k + j) + cy) % 4294967296 : Nat) : Int) by go_num]
       exact ⟨⟨j + 1, (lim xs k * lim ys j + lim zq (k + j) + cy) / 4294967296, _, by omega, by go_num, by go_num, by omega, hid_drewN' R.out _⟩, by simp [intOf]; omega⟩
     . have E0 := hI (zM2 h' (k := j) (by omega))
       obtain rfl : j = n' := by omega
       have Hvq' : Hid (wv zq k j + 4294967296 ^ j * cy = wv zr k j + val ys * lim xs k) := by rw [<- E0.out]; exact Hvq.out
       have i4 : (k : Int) + (j : Int) < ((n + j : Nat) : Int) := by omega
       have i5 : (0 : Int) <= (k : Int) + (j : Int) := by omega
       have i6 : ((k : Int) + (j : Int)).toNat = k + j := by omega
       have hlt : k + j < zq.length := by rw [Lq.out]; omega
       have hc1 := Hrq.out.cell hlt
       have hf1 := Hrq.out.free (k + j)
       have R1 := mulm_step (m := j) (by rw [Hlen.out]; omega) Hsame.out Hvq'.out Hval.out
       have R2 := mulm_rest (m := j) (cy := cy) Hsame.out Hrest.out
       have R3 := Hrq.out.set (k + j) cy
       have R5 := Ok.set Hokq.out (k + j) hcy
       have R6 : (zq.set (k + j) cy).length = n + j := by rw [List.length_set]; exact Lq.out
       have R := hI (And.intro R6 (And.intro R3 (And.intro R5 (And.intro R1 (And.intro R2 (Hbq.out.setCell (Nat.le_refl _) (p := ⟨w.heap.size, k + j, none⟩) (.int .u32 (cy : Nat))))))))
       clear R1 R2 R3 R5 R6
       go_wp2
       exact ⟨⟨k + 1, _, by omega, by go_num, R.out⟩, by simp [intOf]; omega⟩
  . obtain rfl : k = n := by omega
    have Hz := hI Hrw.out.lt
    have hsl := Hrw.out.sl (B := wo.heap.size) (n := k + n') (c := k + n') Hrw.out.lt 0 (by rw [Hlen.out]; omega) (Nat.le_refl _) (by omega) Hok.out
    rw [List.drop_zero, List.take_of_length_le (by rw [Hlen.out]; omega)] at hsl
    go_wp2_with fail
    refine (zD4 _ _ _ _ zr wo hsl).mono ?_
    rintro e w3 ⟨⟨j, hj, rfl, hnz, hv⟩, rfl⟩
    have HV := hI hv
    clear hv
    go_wp2
    go_ret
    exact ⟨_, _, _, _, rfl, hsl.to hj, hnz, by rw [HV.out, <- zF7 zr (show zr.length <= k + n' by rw [Hlen.out]; omega), Hval.out, List.take_of_length_le (by rw [Hl.out]; omega)], Hb.out⟩
theorem rmul_bad1 (neg neg' : Bool) (A A' : Option Addr) (n c n' c' : Nat) (xs : List Nat) (w : World) (h : Sl w w.heap.size A n c xs) (hv : vld neg xs = false) :
 Calls Tryz.prog 52 #[.agg #[.bool neg, .slice A n c], .agg #[.bool neg', .slice A' n' c']] w (zB0 0 1 w) := by
 go_enter Tryz.func52, Tryz.ntmps52
 go_wp2_with fail
 generalize hW : World.alloc (World.alloc (World.alloc w _) _) _ = W
 obtain ⟨hb, hz, b0, b1, b2⟩ := zA8 neg neg' A A' n c n' c' w W hW
 have hs := h.on hb
 clear hW
 refine (zA3 _ _ _ _ _ xs _ hs (Nat.le_refl _)).mono ?_
 rintro e w1 ⟨rfl, hb1⟩
 have b2' := b2.below hb1 (by omega)
 have k3 := b2'.c0
 have k4 := b2'.c1
 have k5 := b2'.f 0
 have k6 := b2'.f 1
 generalize hr : w.heap.size = r at *
 have HRW := hI (And.intro hb hr)
 clear hb hr
 go_wp2
 exact bodyPost_ret (v := .tuple #[.agg #[.bool false, .slice none 0 0], .int .i64 1]) (by simp [results, Tryz.results52, go_sem, k3, k4]) rfl
  ⟨none, 0, 0, [], rfl, Sl.nil _ _, Nz.nil, rfl, by rw [HRW.out.2]; exact zA1 (zA HRW.out.1 (by omega) hb1) (show r <= r + 1 + 1 by omega) _ _⟩
theorem rmul_bad2 (neg neg' : Bool) (A A' : Option Addr) (n c n' c' : Nat) (xs ys : List Nat) (w : World) (h : Sl w w.heap.size A n c xs) (h' : Sl w w.heap.size A' n' c' ys) (hv : vld neg xs = true) (hv' : vld neg' ys = false) :
 Calls Tryz.prog 52 #[.agg #[.bool neg, .slice A n c], .agg #[.bool neg', .slice A' n' c']] w (zB0 0 1 w) := by
 go_enter Tryz.func52, Tryz.ntmps52
 go_wp2_with fail
 generalize hW : World.alloc (World.alloc (World.alloc w _) _) _ = W
 obtain ⟨hb, hz, b0, b1, b2⟩ := zA8 neg neg' A A' n c n' c' w W hW
 have hs := h.on hb
 have hs' := h'.on hb
 clear hW
 refine (zA3 _ _ _ _ _ xs _ hs (Nat.le_refl _)).mono ?_
 rintro e w1 ⟨rfl, hb1⟩
 have hz1 : w.heap.size + 1 + 1 < w1.heap.size := by have := hb1.size; omega
 have b1' := b1.below hb1 (by omega)
 have b2' := b2.below hb1 (by omega)
 have q0 := b1'.c0
 have q1 := b1'.c1
 go_wp2_with fail
 refine (zA3 _ _ _ _ _ ys _ (hs'.on hb1) (Nat.le_refl _)).mono ?_
 rintro e w2 ⟨rfl, hb2⟩
 clear q0 q1
 have b2'' := b2'.below hb2 (by omega)
 have k3 := b2''.c0
 have k4 := b2''.c1
 have k5 := b2''.f 0
 have k6 := b2''.f 1
 generalize hr : w.heap.size = r at *
 have HRW := hI (And.intro hb hr)
 clear hb hr
 go_wp2
 exact bodyPost_ret (v := .tuple #[.agg #[.bool false, .slice none 0 0], .int .i64 1]) (by simp [results, Tryz.results52, go_sem, k3, k4]) rfl
  ⟨none, 0, 0, [], rfl, Sl.nil _ _, Nz.nil, rfl, by rw [HRW.out.2]; exact zA1 (zA (zA HRW.out.1 (by omega) hb1) (by omega) hb2) (show r <= r + 1 + 1 by omega) _ _⟩
theorem rmul_good_tt (A A' : Option Addr) (n c n' c' : Nat) (xs ys : List Nat) (w : World) (h : Sl w w.heap.size A n c xs) (h' : Sl w w.heap.size A' n' c' ys) (hv : vld true xs = true) (hv' : vld true ys = true)  (p : Nat) (hp : val xs * val ys = p) :
 Calls Tryz.prog 52 #[.agg #[.bool true, .slice A n c], .agg #[.bool true, .slice A' n' c']] w (zB0 (fitZ (sg false p)) (fitE (sg false p)) w) := by
 have Hp := hI hp
 clear hp
 have Hg := hI (And.intro (zA2 hv) (zA2 hv'))
 have hlx := h.len
 have hly := h'.len
 have hn : n <= 1000000 := by have := Hg.out.1.1; omega
 have hn' : n' <= 1000000 := by have := Hg.out.2.1; omega
 clear hlx hly
 go_enter Tryz.func52, Tryz.ntmps52
 go_wp2_with fail
 generalize hW : World.alloc (World.alloc (World.alloc w _) _) _ = W
 obtain ⟨hb, hz, b0, b1, b2⟩ := zA8 true true A A' n c n' c' w W hW
 have hs := h.on hb
 have hs' := h'.on hb
 clear hW
 refine (zA3 _ _ _ _ _ xs _ hs (Nat.le_refl _)).mono ?_
 rintro e w1 ⟨rfl, hb1⟩
 have hz1 : w.heap.size + 1 + 1 < w1.heap.size := by have := hb1.size; omega
 have b0' := b0.below hb1 (by omega)
 have b1' := b1.below hb1 (by omega)
 have b2' := b2.below hb1 (by omega)
 have hs1 := hs.on hb1
 have hs1' := hs'.on hb1
 have q0 := b1'.c0
 have q1 := b1'.c1
 go_wp2_with fail
 refine (zA3 _ _ _ _ _ ys _ hs1' (Nat.le_refl _)).mono ?_
 rintro e w2 ⟨rfl, hb2⟩
 clear q0 q1
 have hz2 : w.heap.size + 1 + 1 < w2.heap.size := by have := hb2.size; omega
 have b0'' := b0'.below hb2 (by omega)
 have b1'' := b1'.below hb2 (by omega)
 have b2'' := b2'.below hb2 (by omega)
 have hs2 := hs1.on hb2
 have hs2' := hs1'.on hb2
 have k0 := b0''.c0
 have k1 := b0''.c1
 have k2 := b1''.c0
 have k3 := b1''.c1
 generalize hr : w.heap.size = r at *
 have HRW := hI (And.intro hb hr)
 clear hb hr
 have ne1 : r ≠ r + 1 + 1 := by omega
 have ne2 : r + 1 + 1 ≠ r := by omega
 go_wp2_with fail
 go_region_held3 (fun w' => w'.cell? ⟨r, 0, none⟩ = some (.bool true) /\ w'.cell? ⟨r + 1, 0, none⟩ = some (.bool true) /\ w'.cell? ⟨r, 1, none⟩ = some (.slice A n c) /\ w'.cell? ⟨r + 1, 1, none⟩ = some (.slice A' n' c'))
  (go_keep)
  (first
   | (go_at_call 86
      have L := zD8 false A1 n1 c1 xs1 w5 hs5 hx5
      rw [hv5] at L
      refine L.mono ?_
      clear L
      rintro e w6 ⟨A2, n2, c2, xs2, rfl, hs6, hx6, hv6, hb6⟩
      have f0 := e0.below hb6 (by omega)
      have f1 := e1.below hb6 (by omega)
      have f2 := e2.below hb6 (by omega)
      have j0' := f0.c0
      have j1' := f0.c1
      have j2' := f1.c1
      have j7' := f1.c0
      have j3' := f2.c0
      have j4' := f2.c1
      have j5' := f2.f 0
      have j6' := f2.f 1
      have H2 := hI (And.intro hv6 hx6)
      clear hv5 hv6 hx6)
   | (go_at_call 88
      refine (zN1 _ _ _ _ _ _ _ _ _ hs2.drew hs2'.drew hn hn').mono ?_
      rintro e w5 ⟨A1, n1, c1, xs1, rfl, hs5, hx5, hv5, hbd⟩
      rw [Hp.out] at hv5
      have hb5 := zA9 hbd
      clear hbd
      have e0 := b0''.below hb5 (by omega)
      have e1 := b1''.below hb5 (by omega)
      have e2 := b2''.below hb5 (by omega)
      have hz5 := e2.lt
      have j0 := e0.c0
      have j1 := e0.c1
      have j2 := e1.c1
      have j7 := e1.c0))
 go_wp2
 exact bodyPost_ret (v := .tuple #[.agg #[.bool (decide (fitZ (sg false p) < 0)), .slice A2 n2 c2], .int .i64 (fitE (sg false p))])
  (by simp [results, Tryz.results52, go_sem, j3', j4']) rfl
  ⟨A2, n2, c2, xs2, rfl, hs6.ret f2 _ _, H2.out.2, H2.out.1, by rw [HRW.out.2]; exact zA1 (zA (zA (zA (zA HRW.out.1 (by omega) hb1) (by omega) hb2) (by omega) hb5) (by omega) hb6) (show r <= r + 1 + 1 by omega) _ _⟩
theorem rmul_good_tf (A A' : Option Addr) (n c n' c' : Nat) (xs ys : List Nat) (w : World) (h : Sl w w.heap.size A n c xs) (h' : Sl w w.heap.size A' n' c' ys) (hv : vld true xs = true) (hv' : vld false ys = true)  (p : Nat) (hp : val xs * val ys = p) :
 Calls Tryz.prog 52 #[.agg #[.bool true, .slice A n c], .agg #[.bool false, .slice A' n' c']] w (zB0 (fitZ (sg true p)) (fitE (sg true p)) w) := by
 have Hp := hI hp
 clear hp
 have Hg := hI (And.intro (zA2 hv) (zA2 hv'))
 have hlx := h.len
 have hly := h'.len
 have hn : n <= 1000000 := by have := Hg.out.1.1; omega
 have hn' : n' <= 1000000 := by have := Hg.out.2.1; omega
 clear hlx hly
 go_enter Tryz.func52, Tryz.ntmps52
 go_wp2_with fail
 generalize hW : World.alloc (World.alloc (World.alloc w _) _) _ = W
 obtain ⟨hb, hz, b0, b1, b2⟩ := zA8 true false A A' n c n' c' w W hW
 have hs := h.on hb
 have hs' := h'.on hb
 clear hW
 refine (zA3 _ _ _ _ _ xs _ hs (Nat.le_refl _)).mono ?_
 rintro e w1 ⟨rfl, hb1⟩
 have hz1 : w.heap.size + 1 + 1 < w1.heap.size := by have := hb1.size; omega
 have b0' := b0.below hb1 (by omega)
 have b1' := b1.below hb1 (by omega)
 have b2' := b2.below hb1 (by omega)
 have hs1 := hs.on hb1
 have hs1' := hs'.on hb1
 have q0 := b1'.c0
 have q1 := b1'.c1
 go_wp2_with fail
 refine (zA3 _ _ _ _ _ ys _ hs1' (Nat.le_refl _)).mono ?_
 rintro e w2 ⟨rfl, hb2⟩
 clear q0 q1
 have hz2 : w.heap.size + 1 + 1 < w2.heap.size := by have := hb2.size; omega
 have b0'' := b0'.below hb2 (by omega)
 have b1'' := b1'.below hb2 (by omega)
 have b2'' := b2'.below hb2 (by omega)
 have hs2 := hs1.on hb2
 have hs2' := hs1'.on hb2
 have k0 := b0''.c0
 have k1 := b0''.c1
 have k2 := b1''.c0
 have k3 := b1''.c1
 generalize hr : w.heap.size = r at *
 have HRW := hI (And.intro hb hr)
 clear hb hr
 have ne1 : r ≠ r + 1 + 1 := by omega
 have ne2 : r + 1 + 1 ≠ r := by omega
 go_wp2_with fail
 go_region_held3 (fun w' => w'.cell? ⟨r, 0, none⟩ = some (.bool true) /\ w'.cell? ⟨r + 1, 0, none⟩ = some (.bool false) /\ w'.cell? ⟨r, 1, none⟩ = some (.slice A n c) /\ w'.cell? ⟨r + 1, 1, none⟩ = some (.slice A' n' c'))
  (go_keep)
  (first
   | (go_at_call 86
      have L := zD8 true A1 n1 c1 xs1 w5 hs5 hx5
      rw [hv5] at L
      refine L.mono ?_
      clear L
      rintro e w6 ⟨A2, n2, c2, xs2, rfl, hs6, hx6, hv6, hb6⟩
      have f0 := e0.below hb6 (by omega)
      have f1 := e1.below hb6 (by omega)
      have f2 := e2.below hb6 (by omega)
      have j0' := f0.c0
      have j1' := f0.c1
      have j2' := f1.c1
      have j7' := f1.c0
      have j3' := f2.c0
      have j4' := f2.c1
      have j5' := f2.f 0
      have j6' := f2.f 1
      have H2 := hI (And.intro hv6 hx6)
      clear hv5 hv6 hx6)
   | (go_at_call 88
      refine (zN1 _ _ _ _ _ _ _ _ _ hs2.drew hs2'.drew hn hn').mono ?_
      rintro e w5 ⟨A1, n1, c1, xs1, rfl, hs5, hx5, hv5, hbd⟩
      rw [Hp.out] at hv5
      have hb5 := zA9 hbd
      clear hbd
      have e0 := b0''.below hb5 (by omega)
      have e1 := b1''.below hb5 (by omega)
      have e2 := b2''.below hb5 (by omega)
      have hz5 := e2.lt
      have j0 := e0.c0
      have j1 := e0.c1
      have j2 := e1.c1
      have j7 := e1.c0))
 go_wp2
 exact bodyPost_ret (v := .tuple #[.agg #[.bool (decide (fitZ (sg true p) < 0)), .slice A2 n2 c2], .int .i64 (fitE (sg true p))])
  (by simp [results, Tryz.results52, go_sem, j3', j4']) rfl
  ⟨A2, n2, c2, xs2, rfl, hs6.ret f2 _ _, H2.out.2, H2.out.1, by rw [HRW.out.2]; exact zA1 (zA (zA (zA (zA HRW.out.1 (by omega) hb1) (by omega) hb2) (by omega) hb5) (by omega) hb6) (show r <= r + 1 + 1 by omega) _ _⟩
theorem rmul_good_ft (A A' : Option Addr) (n c n' c' : Nat) (xs ys : List Nat) (w : World) (h : Sl w w.heap.size A n c xs) (h' : Sl w w.heap.size A' n' c' ys) (hv : vld false xs = true) (hv' : vld true ys = true)  (p : Nat) (hp : val xs * val ys = p) :
 Calls Tryz.prog 52 #[.agg #[.bool false, .slice A n c], .agg #[.bool true, .slice A' n' c']] w (zB0 (fitZ (sg true p)) (fitE (sg true p)) w) := by
 have Hp := hI hp
 clear hp
 have Hg := hI (And.intro (zA2 hv) (zA2 hv'))
 have hlx := h.len
 have hly := h'.len
 have hn : n <= 1000000 := by have := Hg.out.1.1; omega
 have hn' : n' <= 1000000 := by have := Hg.out.2.1; omega
 clear hlx hly
 go_enter Tryz.func52, Tryz.ntmps52
 go_wp2_with fail
 generalize hW : World.alloc (World.alloc (World.alloc w _) _) _ = W
 obtain ⟨hb, hz, b0, b1, b2⟩ := zA8 false true A A' n c n' c' w W hW
 have hs := h.on hb
 have hs' := h'.on hb
 clear hW
 refine (zA3 _ _ _ _ _ xs _ hs (Nat.le_refl _)).mono ?_
 rintro e w1 ⟨rfl, hb1⟩
 have hz1 : w.heap.size + 1 + 1 < w1.heap.size := by have := hb1.size; omega
 have b0' := b0.below hb1 (by omega)
 have b1' := b1.below hb1 (by omega)
 have b2' := b2.below hb1 (by omega)
 have hs1 := hs.on hb1
 have hs1' := hs'.on hb1
 have q0 := b1'.c0
 have q1 := b1'.c1
 go_wp2_with fail
 refine (zA3 _ _ _ _ _ ys _ hs1' (Nat.le_refl _)).mono ?_
 rintro e w2 ⟨rfl, hb2⟩
 clear q0 q1
 have hz2 : w.heap.size + 1 + 1 < w2.heap.size := by have := hb2.size; omega
 have b0'' := b0'.below hb2 (by omega)
 have b1'' := b1'.below hb2 (by omega)
 have b2'' := b2'.below hb2 (by omega)
 have hs2 := hs1.on hb2
 have hs2' := hs1'.on hb2
 have k0 := b0''.c0
 have k1 := b0''.c1
 have k2 := b1''.c0
 have k3 := b1''.c1
 generalize hr : w.heap.size = r at *
 have HRW := hI (And.intro hb hr)
 clear hb hr
 have ne1 : r ≠ r + 1 + 1 := by omega
 have ne2 : r + 1 + 1 ≠ r := by omega
 go_wp2_with fail
 go_region_held3 (fun w' => w'.cell? ⟨r, 0, none⟩ = some (.bool false) /\ w'.cell? ⟨r + 1, 0, none⟩ = some (.bool true) /\ w'.cell? ⟨r, 1, none⟩ = some (.slice A n c) /\ w'.cell? ⟨r + 1, 1, none⟩ = some (.slice A' n' c'))
  (go_keep)
  (first
   | (go_at_call 86
      have L := zD8 true A1 n1 c1 xs1 w5 hs5 hx5
      rw [hv5] at L
      refine L.mono ?_
      clear L
      rintro e w6 ⟨A2, n2, c2, xs2, rfl, hs6, hx6, hv6, hb6⟩
      have f0 := e0.below hb6 (by omega)
      have f1 := e1.below hb6 (by omega)
      have f2 := e2.below hb6 (by omega)
      have j0' := f0.c0
      have j1' := f0.c1
      have j2' := f1.c1
      have j7' := f1.c0
      have j3' := f2.c0
      have j4' := f2.c1
      have j5' := f2.f 0
      have j6' := f2.f 1
      have H2 := hI (And.intro hv6 hx6)
      clear hv5 hv6 hx6)
   | (go_at_call 88
      refine (zN1 _ _ _ _ _ _ _ _ _ hs2.drew hs2'.drew hn hn').mono ?_
      rintro e w5 ⟨A1, n1, c1, xs1, rfl, hs5, hx5, hv5, hbd⟩
      rw [Hp.out] at hv5
      have hb5 := zA9 hbd
      clear hbd
      have e0 := b0''.below hb5 (by omega)
      have e1 := b1''.below hb5 (by omega)
      have e2 := b2''.below hb5 (by omega)
      have hz5 := e2.lt
      have j0 := e0.c0
      have j1 := e0.c1
      have j2 := e1.c1
      have j7 := e1.c0))
 go_wp2
 exact bodyPost_ret (v := .tuple #[.agg #[.bool (decide (fitZ (sg true p) < 0)), .slice A2 n2 c2], .int .i64 (fitE (sg true p))])
  (by simp [results, Tryz.results52, go_sem, j3', j4']) rfl
  ⟨A2, n2, c2, xs2, rfl, hs6.ret f2 _ _, H2.out.2, H2.out.1, by rw [HRW.out.2]; exact zA1 (zA (zA (zA (zA HRW.out.1 (by omega) hb1) (by omega) hb2) (by omega) hb5) (by omega) hb6) (show r <= r + 1 + 1 by omega) _ _⟩
theorem rmul_good_ff (A A' : Option Addr) (n c n' c' : Nat) (xs ys : List Nat) (w : World) (h : Sl w w.heap.size A n c xs) (h' : Sl w w.heap.size A' n' c' ys) (hv : vld false xs = true) (hv' : vld false ys = true)  (p : Nat) (hp : val xs * val ys = p) :
 Calls Tryz.prog 52 #[.agg #[.bool false, .slice A n c], .agg #[.bool false, .slice A' n' c']] w (zB0 (fitZ (sg false p)) (fitE (sg false p)) w) := by
 have Hp := hI hp
 clear hp
 have Hg := hI (And.intro (zA2 hv) (zA2 hv'))
 have hlx := h.len
 have hly := h'.len
 have hn : n <= 1000000 := by have := Hg.out.1.1; omega
 have hn' : n' <= 1000000 := by have := Hg.out.2.1; omega
 clear hlx hly
 go_enter Tryz.func52, Tryz.ntmps52
 go_wp2_with fail
 generalize hW : World.alloc (World.alloc (World.alloc w _) _) _ = W
 obtain ⟨hb, hz, b0, b1, b2⟩ := zA8 false false A A' n c n' c' w W hW
 have hs := h.on hb
 have hs' := h'.on hb
 clear hW
 refine (zA3 _ _ _ _ _ xs _ hs (Nat.le_refl _)).mono ?_
 rintro e w1 ⟨rfl, hb1⟩
 have hz1 : w.heap.size + 1 + 1 < w1.heap.size := by have := hb1.size; omega
 have b0' := b0.below hb1 (by omega)
 have b1' := b1.below hb1 (by omega)
 have b2' := b2.below hb1 (by omega)
 have hs1 := hs.on hb1
 have hs1' := hs'.on hb1
 have q0 := b1'.c0
 have q1 := b1'.c1
 go_wp2_with fail
 refine (zA3 _ _ _ _ _ ys _ hs1' (Nat.le_refl _)).mono ?_
 rintro e w2 ⟨rfl, hb2⟩
 clear q0 q1
 have hz2 : w.heap.size + 1 + 1 < w2.heap.size := by have := hb2.size; omega
 have b0'' := b0'.below hb2 (by omega)
 have b1'' := b1'.below hb2 (by omega)
 have b2'' := b2'.below hb2 (by omega)
 have hs2 := hs1.on hb2
 have hs2' := hs1'.on hb2
 have k0 := b0''.c0
 have k1 := b0''.c1
 have k2 := b1''.c0
 have k3 := b1''.c1
 generalize hr : w.heap.size = r at *
 have HRW := hI (And.intro hb hr)
 clear hb hr
 have ne1 : r ≠ r + 1 + 1 := by omega
 have ne2 : r + 1 + 1 ≠ r := by omega
 go_wp2_with fail
 go_region_held3 (fun w' => w'.cell? ⟨r, 0, none⟩ = some (.bool false) /\ w'.cell? ⟨r + 1, 0, none⟩ = some (.bool false) /\ w'.cell? ⟨r, 1, none⟩ = some (.slice A n c) /\ w'.cell? ⟨r + 1, 1, none⟩ = some (.slice A' n' c'))
  (go_keep)
  (first
   | (go_at_call 86
      have L := zD8 false A1 n1 c1 xs1 w5 hs5 hx5
      rw [hv5] at L
      refine L.mono ?_
      clear L
      rintro e w6 ⟨A2, n2, c2, xs2, rfl, hs6, hx6, hv6, hb6⟩
      have f0 := e0.below hb6 (by omega)
      have f1 := e1.below hb6 (by omega)
      have f2 := e2.below hb6 (by omega)
      have j0' := f0.c0
      have j1' := f0.c1
      have j2' := f1.c1
      have j7' := f1.c0
      have j3' := f2.c0
      have j4' := f2.c1
      have j5' := f2.f 0
      have j6' := f2.f 1
      have H2 := hI (And.intro hv6 hx6)
      clear hv5 hv6 hx6)
   | (go_at_call 88
      refine (zN1 _ _ _ _ _ _ _ _ _ hs2.drew hs2'.drew hn hn').mono ?_
      rintro e w5 ⟨A1, n1, c1, xs1, rfl, hs5, hx5, hv5, hbd⟩
      rw [Hp.out] at hv5
      have hb5 := zA9 hbd
      clear hbd
      have e0 := b0''.below hb5 (by omega)
      have e1 := b1''.below hb5 (by omega)
      have e2 := b2''.below hb5 (by omega)
      have hz5 := e2.lt
      have j0 := e0.c0
      have j1 := e0.c1
      have j2 := e1.c1
      have j7 := e1.c0))
 go_wp2
 exact bodyPost_ret (v := .tuple #[.agg #[.bool (decide (fitZ (sg false p) < 0)), .slice A2 n2 c2], .int .i64 (fitE (sg false p))])
  (by simp [results, Tryz.results52, go_sem, j3', j4']) rfl
  ⟨A2, n2, c2, xs2, rfl, hs6.ret f2 _ _, H2.out.2, H2.out.1, by rw [HRW.out.2]; exact zA1 (zA (zA (zA (zA HRW.out.1 (by omega) hb1) (by omega) hb2) (by omega) hb5) (by omega) hb6) (show r <= r + 1 + 1 by omega) _ _⟩
theorem rmul_any (neg neg' : Bool) (A A' : Option Addr) (n c n' c' : Nat) (xs ys : List Nat) (w : World) (h : Sl w w.heap.size A n c xs) (h' : Sl w w.heap.size A' n' c' ys) :
 Calls Tryz.prog 52 #[.agg #[.bool neg, .slice A n c], .agg #[.bool neg', .slice A' n' c']] w
  (zB0 (opZ (vld neg xs && vld neg' ys) (sg neg (val xs) * sg neg' (val ys))) (opE (vld neg xs && vld neg' ys) (sg neg (val xs) * sg neg' (val ys))) w) := by
 rcases hv : vld neg xs with _ | _
 . exact rmul_bad1 neg neg' A A' n c n' c' xs w h hv
 . rcases hv' : vld neg' ys with _ | _
   . exact rmul_bad2 neg neg' A A' n c n' c' xs ys w h h' hv hv'
   . have hs := sg_mul neg neg' (val xs) (val ys)
     rw [<- hs]
     cases neg <;> cases neg'
     . exact rmul_good_ff A A' n c n' c' xs ys w h h' hv hv' _ rfl
     . exact rmul_good_ft A A' n c n' c' xs ys w h h' hv hv' _ rfl
     . exact rmul_good_tf A A' n c n' c' xs ys w h h' hv hv' _ rfl
     . exact rmul_good_tt A A' n c n' c' xs ys w h h' hv hv' _ rfl
theorem div_step {N D j b R : Nat} (hD : 0 < D) (hb : N / 2 ^ j % 2 = b) (hR : N / 2 ^ (j + 1) % D = R) :
 (2 * R + b < D -> N / 2 ^ j / D * 2 ^ j = N / 2 ^ (j + 1) / D * 2 ^ (j + 1) /\ N / 2 ^ j % D = 2 * R + b) ∧
 (D <= 2 * R + b -> N / 2 ^ j / D * 2 ^ j = N / 2 ^ (j + 1) / D * 2 ^ (j + 1) + 2 ^ j /\ N / 2 ^ j % D = 2 * R + b - D) := by
 have e : N / 2 ^ (j + 1) = N / 2 ^ j / 2 := by rw [Nat.pow_succ, Nat.div_div_eq_div_mul]
 rw [e] at hR ⊢
 generalize N / 2 ^ j = M at *
 have e2 := Nat.div_add_mod (M / 2) D
 have hm := Nat.mod_lt (M / 2) hD
 rw [hR] at e2 hm
 have em : M = 2 * (M / 2) + b := by omega
 generalize M / 2 = H at *
 generalize H / D = Q at *
 have key : M = D * (2 * Q) + (2 * R + b) := by
  rw [Nat.mul_left_comm, em, <- e2]; omega
 rw [Nat.pow_succ]
 constructor
 . intro h
   have k1 : M / D = 2 * Q := by rw [key, Nat.mul_add_div hD, Nat.div_eq_of_lt h, Nat.add_zero]
   have k2 : M % D = 2 * R + b := by rw [key, Nat.mul_add_mod, Nat.mod_eq_of_lt h]
   exact ⟨by rw [k1, Nat.mul_comm 2 Q, Nat.mul_assoc, Nat.mul_comm 2], k2⟩
 . intro h
   have key2 : M = D * (2 * Q + 1) + (2 * R + b - D) := by rw [Nat.mul_add, Nat.mul_one]; omega
   have hl : 2 * R + b - D < D := by omega
   have k1 : M / D = 2 * Q + 1 := by rw [key2, Nat.mul_add_div hD, Nat.div_eq_of_lt hl, Nat.add_zero]
   have k2 : M % D = 2 * R + b - D := by rw [key2, Nat.mul_add_mod, Nat.mod_eq_of_lt hl]
   exact ⟨by rw [k1, Nat.add_mul, Nat.one_mul, Nat.mul_comm 2 Q, Nat.mul_assoc, Nat.mul_comm 2], k2⟩
theorem val_set_bit {zs : List Nat} {l t j Q : Nat} (hz : Ok zs) (hj : j = 32 * l + t) (ht : t < 32) (hl : l < zs.length) (hv : val zs = Q * 2 ^ (j + 1)) :
 lim zs l + 2 ^ t < 4294967296 /\ val (zs.set l (lim zs l + 2 ^ t)) = val zs + 2 ^ j := by
 have e : (4294967296 : Nat) ^ l = 2 ^ (32 * l) := by rw [show (4294967296 : Nat) = 2 ^ 32 by decide, <- Nat.pow_mul]
 constructor
 . have d := zI hz l
   rw [hv, hj, e, show 32 * l + t + 1 = (t + 1) + 32 * l by omega, Nat.pow_add, <- Nat.mul_assoc, Nat.mul_div_cancel _ (Nat.pow_pos (by decide))] at d
   have h1 : (2 : Nat) ^ (t + 1) ∣ 4294967296 := ⟨2 ^ (31 - t), by rw [<- Nat.pow_add, show t + 1 + (31 - t) = 32 by omega]⟩
   have h2 : (2 : Nat) ^ (t + 1) ∣ lim zs l := by
    rw [d]; exact (Nat.dvd_mod_iff h1).2 (Nat.dvd_mul_left _ _)
   have h3 := hz.lim l
   obtain ⟨u, hu⟩ := h1
   obtain ⟨v, hv'⟩ := h2
   rw [hv'] at h3 ⊢
   rw [hu] at h3 ⊢
   have h4 : v < u := Nat.lt_of_mul_lt_mul_left h3
   have h5 : 2 ^ (t + 1) * (v + 1) <= 2 ^ (t + 1) * u := Nat.mul_le_mul_left _ h4
   have h6 : (2 : Nat) ^ t < 2 ^ (t + 1) := Nat.pow_lt_pow_right (by decide) (by omega)
   rw [Nat.mul_add, Nat.mul_one] at h5
   omega
 . have a := zI9 zs l 1 (zs.length - l - 1) (by omega)
   have b := zI9 (zs.set l (lim zs l + 2 ^ t)) l 1 (zs.length - l - 1) (by rw [List.length_set]; omega)
   have e1 : wv (zs.set l (lim zs l + 2 ^ t)) 0 l = wv zs 0 l := zL (by omega)
   have e2 : wv (zs.set l (lim zs l + 2 ^ t)) l 1 = lim zs l + 2 ^ t := by simp only [wv, Nat.pow_zero, Nat.one_mul, Nat.zero_add, Nat.add_zero]; exact zF5 hl
   have e3 : wv (zs.set l (lim zs l + 2 ^ t)) (l + 1) (zs.length - l - 1) = wv zs (l + 1) (zs.length - l - 1) := zL0 fun i _ => zC2 (by omega)
   have e4 : wv zs l 1 = lim zs l := by simp only [wv, Nat.pow_zero, Nat.one_mul, Nat.zero_add, Nat.add_zero]
   rw [b, a, e1, e2, e3, e4, hj, Nat.pow_add, <- e]
   generalize 4294967296 ^ l = P
   generalize wv zs (l + 1) (zs.length - l - 1) = H
   grind
theorem Sl.apart {w : World} {B n c : Nat} {A : Option Addr} {xs : List Nat} (h : Sl w B A n c xs) {p : Addr} (hp : ∀ ad, A = some ad -> ad.block ≠ p.block) (u : Value) : Sl (w.setCell p u) B A n c xs := by
 refine ⟨h.cap, h.reach, h.capr, h.nil_, ⟨h.reads.1, fun hn => ?_⟩, h.ok⟩
 obtain ⟨ad, e, hb, hc⟩ := h.reads.2 hn
 refine ⟨ad, e, hb, fun j v hj => ?_⟩
 rw [World.cell?_setCell_other w p _ u (fun e' => hp ad e (by rw [<- zE2 ad (j * 1), Nat.mul_one, <- e']))]
 exact hc j v hj
structure Dv (w wr : World) (g n D N J : Nat) (A : Option Addr) (nr cr : Nat) (rs zr : List Nat) : Prop where
 lz : zr.length = n
 rz : Row wr g zr
 oz : Ok zr
 q : val zr = N / 2 ^ J / D * 2 ^ J
 sr : Sl wr wr.heap.size A nr cr rs
 nr' : Nz rs
 r : val rs = N / 2 ^ J % D
 ap : ∀ ad, A = some ad -> ad.block ≠ g
 be : Below w.heap.size w wr
theorem rdivide_long (A A' : Option Addr) (n c n' c' : Nat) (xs ys : List Nat) (w : World) (h : Sl w w.heap.size A n c xs) (h' : Sl w w.heap.size A' n' c' ys) (hx : Nz xs) (hy : Nz ys) (hn : n <= 10000) (hn' : n' <= 10000) (h1 : n' ≠ 1) (h0 : 0 < val ys) :
 Calls Tryz.prog 83 #[.slice A n c, .slice A' n' c'] w (zU3 (val xs / val ys) (val xs % val ys) w) := by
 have i0 : ((n' : Int) == 1) = false := by rw [beq_eq_false_iff_ne]; omega
 have hmk := zD7 (n : Int) n rfl (by omega)
 have Hrow := hI (Row.made w n)
 have Hb0 := hI ((Below.refl w.heap.size w).alloc (Nat.le_refl _) (.cells (zrow n) 64))
 have Hsx := hI h
 have Hsy := hI h'
 have HX := hI (And.intro hx hy)
 have Hlx := hI (show zC5 (val xs) <= 32 * n by
  rw [zJ9]
  have := zD h.ok
  rw [h.len, show (4294967296 : Nat) = 2 ^ 32 by decide, <- Nat.pow_mul] at this
  exact this)
 have hs0 := h.alloc (Nat.le_refl _) (.cells (zrow n) 64)
 clear h1 h h'
 go_enter Tryz.func83, Tryz.ntmps83
 go_wp2_with fail
 refine (rdigits_any _ _ _ _ xs _ hs0 hx (by omega)).mono ?_
 rintro e w1 ⟨rfl, rfl⟩
 have hbn := zN2 (val xs)
 have HBN := hI hbn
 clear hbn hs0
 have hnb : zC5 (val xs) <= 32 * n := Hlx.out
 generalize zC5 (val xs) = K at *
 go_wp2_with fail
 go_loopw [8, 10] (fun sv iv wr => ∃ (J : Nat) (A : Option Addr) (nr cr : Nat) (rs zr : List Nat), sv = .slice A nr cr /\ iv = .int .i64 ((J : Int) - 1) /\ J <= 32 * n /\ Hid (Dv w wr w.heap.size n (val ys) (val xs) J A nr cr rs zr)) (fun _ iv _ => (intOf iv + 1).toNat)
 case atStart =>
  refine ⟨K, none, 0, 0, [], List.replicate n 0, rfl, rfl, hnb, ⟨List.length_replicate, Hrow.out, zD9 _, ?_, Sl.nil _ _, Nz.nil, ?_, (fun _ e => by cases e), Hb0.out⟩⟩
  . rw [zS5, Nat.div_eq_of_lt HBN.out, Nat.zero_div, Nat.zero_mul]
  . rw [Nat.div_eq_of_lt HBN.out]; rfl
 case round =>
  obtain ⟨J, Ar, nr, cr, rs, zr, rfl, rfl, hJ, HD⟩ := hrel
  rcases J with _ | j
  . have e0 : decide ((0 : Int) <= ((0 : Nat) : Int) - 1) = false := by decide
    have hz := HD.out.rz.lt
    have hsz := HD.out.rz.sl (B := wr.heap.size) (n := n) (c := n) hz 0 (by rw [HD.out.lz]; omega) (Nat.le_refl _) (by omega) HD.out.oz
    rw [List.drop_zero, List.take_of_length_le (by rw [HD.out.lz]; omega)] at hsz
    have HQ := hI (show val zr = val xs / val ys /\ val rs = val xs % val ys from by
     have q := HD.out.q
     have r := HD.out.r
     rw [Nat.pow_zero, Nat.div_one] at q r
     rw [Nat.mul_one] at q
     exact ⟨q, r⟩)
    go_wp2_with fail
    refine (zD4 _ _ _ _ zr wr hsz).mono ?_
    rintro e w3 ⟨⟨k, hk, rfl, hnz, hv⟩, rfl⟩
    have HV := hI hv
    clear hv
    go_wp2
    go_ret2
    exact ⟨_, k, n, _, Ar, nr, cr, rs, rfl, hsz.to hk, hnz, by rw [HV.out]; exact HQ.out.1, HD.out.sr, HD.out.nr', HQ.out.2, HD.out.be⟩
  . have ej : ((j + 1 : Nat) : Int) - 1 = (j : Int) := by omega
    rw [ej]
    clear ej
    obtain ⟨l, t, hl, ht, hjl⟩ : ∃ l t : Nat, (j : Int) / 32 = (l : Int) /\ (j : Int) % 32 = (t : Int) /\ j = 32 * l + t /\ t < 32 := ⟨j / 32, j % 32, by omega, by omega, by omega, by omega⟩
    have HLT := hI (And.intro hl (And.intro ht hjl))
    clear hl ht hjl
    have hln : l < n := by have := HLT.out.2.2; omega
    have hnr : nr <= 10000 := by
     have a : val rs < 4294967296 ^ n' := by
      rw [HD.out.r]
      have := zD Hsy.out.ok
      rw [Hsy.out.len] at this
      exact Nat.lt_trans (Nat.mod_lt _ h0) this
     have := zE0 HD.out.nr' a
     have := HD.out.sr.len
     omega
    obtain ⟨b, hb⟩ : ∃ b, val xs / 2 ^ j % 2 = b := ⟨_, rfl⟩
    have hb1 : b <= 1 := by omega
    have HS := hI (div_step h0 hb HD.out.r.symm)
    have Hbit := hI hb
    clear hb
    have hsx := Hsx.out.on HD.out.be
    go_wp2_with fail
    refine (zH6 _ _ _ _ j l t b _ _ hsx (by omega) HLT.out.1 HLT.out.2.1 Hbit.out).mono ?_
    rintro e w2 ⟨rfl, rfl⟩
    clear hsx
    go_wp2_with fail
    refine (rdouble_new _ _ _ b _ _ HD.out.sr (by omega) hb1).mono ?_
    rintro e w3 ⟨n1, c1, xs1, rfl, hs1, hx1, hv1, hbn1⟩
    have HV1 := hI hv1
    clear hv1
    have HN := hI (And.intro hs1 (And.intro hx1 hbn1))
    have hsy := Hsy.out.on (zA HD.out.be HD.out.be.size hbn1)
    have hzr := HD.out.rz.below hbn1 HD.out.rz.lt
    have hgl := HD.out.rz.lt
    have HB3 := hI (zA HD.out.be HD.out.be.size hbn1)
    have HZ := hI hzr
    have HG := hI (show w.heap.size < w2.heap.size from hgl)
    clear hgl hzr hbn1
    go_wp2_with fail
    refine (zE6 _ _ _ _ _ _ _ _ xs1 ys _ hs1 hsy hx1 HX.out.2).mono ?_
    rintro e w4 ⟨rfl, q, rfl⟩
    rw [HV1.out]
    by_cases hlt : 2 * val rs + b < val ys
    . have hc : cmpv (2 * val rs + b) (val ys) < 0 := by rw [zG6 hlt]; decide
      have HE := hI (HS.out.1 hlt)
      have HN4 := hI (show Dv w (w3.drewN q) w.heap.size n (val ys) (val xs) j (some ⟨w2.heap.size, 0, none⟩) n1 c1 xs1 zr from
       ⟨HD.out.lz, HZ.out.drewN q, HD.out.oz, by rw [HE.out.1]; exact HD.out.q, HN.out.1.drewN q, HN.out.2.1, by rw [HV1.out, HE.out.2], fun ad e => by injection e with e; rw [<- e]; have := HG.out; simp; omega, zA6 HB3.out q⟩)
      clear hlt hs1 hx1 hsy
      go_wp2
      exact ⟨⟨j, _, _, _, xs1, zr, rfl, rfl, by omega, HN4.out⟩, by simp [intOf]⟩
    . have hge : val ys <= 2 * val rs + b := by omega
      have hc : 0 <= cmpv (2 * val rs + b) (val ys) := cmpv_ge hge
      have HE := hI (HS.out.2 hge)
      have HGE := hI hge
      clear hlt hge
      go_wp2_with fail
      refine (rminus_new _ _ _ _ _ _ xs1 ys _ (hs1.drewN q) (hsy.drewN q) HX.out.2 (by rw [HV1.out]; exact HGE.out)).mono ?_
      rintro e w5 ⟨n5, c5, xs5, rfl, hs5, hx5, hv5, hbn5⟩
      have HV5 := hI hv5
      have HS5 := hI (And.intro hs5 hx5)
      have HB5 := hI (zA (zA6 HB3.out q) (zA6 HB3.out q).size hbn5)
      have HZ5 := hI ((HZ.out.drewN q).below hbn5 (HZ.out.drewN q).lt)
      have HG5 := hI (show w2.heap.size <= (w3.drewN q).heap.size from by have := HN.out.2.2; have := this.size; simpa using this)
      clear hv5 hbn5 hs5 hx5 hs1 hx1 hsy
      have cl := HZ5.out.cell (i := l) (by rw [HD.out.lz]; exact hln)
      have fl := HZ5.out.free l
      have hl := HLT.out.1
      have ht := HLT.out.2.1
      have sb := val_set_bit HD.out.oz HLT.out.2.2.1 HLT.out.2.2.2 (by rw [HD.out.lz]; exact hln) HD.out.q
      have SB := hI sb
      clear sb
      have hli : (l : Int) < (n : Int) := by omega
      go_wp2_with fail
      go_region
      go_wp2
      have e9 : ((lim zr l : Nat) : Int) + 2 ^ t = ((lim zr l + 2 ^ t : Nat) : Int) := by rw [Int.natCast_add, Int.natCast_pow]; rfl
      have e8 : ((lim zr l + 2 ^ t : Nat) : Int) % 4294967296 = ((lim zr l + 2 ^ t : Nat) : Int) := by
       have := SB.out.1
       generalize lim zr l + 2 ^ t = v at *
       omega
      rw [e9, e8]
      have hg5 : w.heap.size ≠ w3.heap.size := by have := HG.out; have := HG5.out; simp at this; omega
      refine ⟨⟨j, _, _, _, xs5, zr.set l (lim zr l + 2 ^ t), rfl, rfl, by omega, ?_⟩, by simp [intOf]⟩
      exact ⟨by rw [List.length_set]; exact HD.out.lz, (HZ5.out.set l _).drew, HD.out.oz.set l SB.out.1, by rw [SB.out.2, HE.out.1, HD.out.q], ((HS5.out.1.apart (fun ad e => by injection e with e; rw [<- e]; exact hg5.symm) _).more (by simp [World.setCell])).drew, HS5.out.2, by rw [HV5.out, HV1.out, HE.out.2], fun ad e => by injection e with e; rw [<- e]; exact hg5.symm, (HB5.out.setCell (Nat.le_refl _) _).drew⟩
theorem sl_one (w : World) : Sl (w.alloc (.cells #[.int .u32 1] 64)) (w.alloc (.cells #[.int .u32 1] 64)).heap.size (some ⟨w.heap.size, 0, none⟩) 1 1 [1] :=
 Row.sl (w := w.alloc (.cells #[.int .u32 1] 64)) (zs := [1]) (Blk.new w 64 _) (show w.heap.size < (w.alloc (.cells #[.int .u32 1] 64)).heap.size by simp) 0 (Nat.le_refl _) (Nat.le_refl _) (by decide) (by unfold Ok; decide)
theorem rdivide_one (A A' : Option Addr) (n c c' d : Nat) (xs : List Nat) (w : World) (h : Sl w w.heap.size A n c xs) (h' : Sl w w.heap.size A' 1 c' [d]) (hn : n <= 10000) (hd : 0 < d) :
 Calls Tryz.prog 83 #[.slice A n c, .slice A' 1 c'] w (zU3 (val xs / d) (val xs % d) w) := by
 have hd9 : d < 4294967296 := h'.ok.head
 obtain ⟨ad, rfl, hadb, hc1⟩ := h'.cell (k := 0) (by omega)
 have e : ad.add 0 = ad := by simp [Addr.add]
 rw [e] at hc1
 clear e
 have hc2 : w.cell? ad = some (.int .u32 (d : Int)) := hc1
 clear hc1
 have Hm := hI (Nat.mod_lt (val xs) hd)
 go_enter Tryz.func83, Tryz.ntmps83
 go_wp2_with fail
 refine (rshort_any _ _ _ d xs _ h (by omega) hd hd9).mono ?_
 rintro e w1 ⟨A1, n1, c1, xs1, rfl, hs1, hx1, hv1, hb1⟩
 have HV := hI (And.intro hx1 hv1)
 clear hx1 hv1
 generalize hr : val xs % d = r at *
 have HR := hI hr
 clear hr
 have hr9 : r < 4294967296 := by have := Hm.out; omega
 have hrow : Row (w1.alloc (Obj.cells #[Value.int IntKind.u32 (r : Int)] 64)) w1.heap.size [r] := Blk.new w1 _ _
 have hok : Ok [r] := Ok.cons hr9 Ok.nil
 have hsl := hrow.sl (B := w1.heap.size + 1) (n := 1) (c := 1) (by omega) 0 (by simp) (by omega) (by omega) hok
 have hs2 := hs1.on (zB5 w1 (Obj.cells #[Value.int IntKind.u32 (r : Int)] 64))
 have hb2 := zA hb1 hb1.size (zB5 w1 (Obj.cells #[Value.int IntKind.u32 (r : Int)] 64))
 go_wp2_with fail
 refine (zD4 _ 1 1 _ _ _ hsl).mono ?_
 rintro e w3 ⟨⟨k, hk, rfl, hnz, hv⟩, rfl⟩
 have HV3 := hI hv
 clear hv
 go_wp2
 go_ret2
 exact ⟨A1, n1, c1, xs1, _, k, 1, _, rfl, hs2, HV.out.1, HV.out.2, (hsl.to hk).more (by simp), hnz, by rw [HV3.out]; simp [val], hb2⟩
theorem zH3 (A A' : Option Addr) (n c n' c' : Nat) (xs ys : List Nat) (w : World) (h : Sl w w.heap.size A n c xs) (h' : Sl w w.heap.size A' n' c' ys) (hx : Nz xs) (hy : Nz ys) (hn : n <= 10000) (hn' : n' <= 10000) (h0 : 0 < val ys) :
 Calls Tryz.prog 83 #[.slice A n c, .slice A' n' c'] w (zU3 (val xs / val ys) (val xs % val ys) w) := by
 by_cases h1 : n' = 1
 . subst h1
   obtain ⟨d, rfl⟩ : ∃ d, ys = [d] := by
    have := h'.len
    rcases ys with _ | ⟨d, _ | ⟨e, ys⟩⟩
    . cases this
    . exact ⟨d, rfl⟩
    . simp at this
   have e : val [d] = d := by simp [val]
   rw [e] at h0 ⊢
   exact rdivide_one A A' n c c' d xs w h h' hn h0
 . exact rdivide_long A A' n c n' c' xs ys w h h' hx hy hn hn' h1 h0
theorem rdivMod_bad1 (neg neg' : Bool) (A A' : Option Addr) (n c n' c' : Nat) (xs ys : List Nat) (w : World) (h : Sl w w.heap.size A n c xs) (h' : Sl w w.heap.size A' n' c' ys) (hv : vld neg xs = false) :
 Calls Tryz.prog 48 #[.agg #[.bool neg, .slice A n c], .agg #[.bool neg', .slice A' n' c']] w (zF2 0 0 1 w) := by
 go_enter Tryz.func48, Tryz.ntmps48
 go_wp2_with fail
 generalize hW : World.alloc (World.alloc (World.alloc (World.alloc w _) _) _) _ = W
 obtain ⟨hb, hz, b0, b1, b2, b3⟩ := zD1 neg neg' A A' n c n' c' w W hW
 have hs := h.on hb
 have hs' := h'.on hb
 clear hW
 refine (zA3 _ _ _ _ _ xs _ hs (Nat.le_refl _)).mono ?_
 rintro e w1 ⟨rfl, hb1⟩
 have hz1 : w.heap.size + 1 + 1 + 1 < w1.heap.size := by have := hb1.size; omega
 have b1 := b1.below hb1 (by omega)
 have b2 := b2.below hb1 (by omega)
 have b3 := b3.below hb1 (by omega)
 have k1 := b1.c1
 have k3 := b2.c0
 have k4 := b2.c1
 have k5 := b2.f 0
 have k6 := b2.f 1
 have j3 := b3.c0
 have j4 := b3.c1
 have j5 := b3.f 0
 have j6 := b3.f 1
 generalize hr : w.heap.size = r at *
 have HRW := hI (And.intro hb hr)
 clear hb hr
 go_wp2
 exact bodyPost_ret (v := .tuple #[.agg #[.bool false, .slice none 0 0], .agg #[.bool false, .slice none 0 0], .int .i64 1]) (by simp [results, Tryz.results48, go_sem, k3, k4, j3, j4]) rfl
  ⟨none, 0, 0, [], none, 0, 0, [], rfl, Sl.nil _ _, Nz.nil, rfl, Sl.nil _ _, Nz.nil, rfl, by rw [HRW.out.2]; exact zA1 (zA1 (zA HRW.out.1 (by omega) hb1) (show r <= r + 1 + 1 by omega) _ _) (show r <= r + 1 + 1 + 1 by omega) _ _⟩
theorem rdivMod_bad2 (neg neg' : Bool) (A A' : Option Addr) (n c n' c' : Nat) (xs ys : List Nat) (w : World) (h : Sl w w.heap.size A n c xs) (h' : Sl w w.heap.size A' n' c' ys) (hv : vld neg xs = true) (hv' : vld neg' ys = false) :
 Calls Tryz.prog 48 #[.agg #[.bool neg, .slice A n c], .agg #[.bool neg', .slice A' n' c']] w (zF2 0 0 1 w) := by
 go_enter Tryz.func48, Tryz.ntmps48
 go_wp2_with fail
 generalize hW : World.alloc (World.alloc (World.alloc (World.alloc w _) _) _) _ = W
 obtain ⟨hb, hz, b0, b1, b2, b3⟩ := zD1 neg neg' A A' n c n' c' w W hW
 have hs := h.on hb
 have hs' := h'.on hb
 clear hW
 refine (zA3 _ _ _ _ _ xs _ hs (Nat.le_refl _)).mono ?_
 rintro e w1 ⟨rfl, hb1⟩
 have hz1 : w.heap.size + 1 + 1 + 1 < w1.heap.size := by have := hb1.size; omega
 have b1 := b1.below hb1 (by omega)
 have b2 := b2.below hb1 (by omega)
 have b3 := b3.below hb1 (by omega)
 have q0 := b1.c0
 have q1 := b1.c1
 go_wp2_with fail
 refine (zA3 _ _ _ _ _ ys _ (hs'.on hb1) (Nat.le_refl _)).mono ?_
 rintro e w2 ⟨rfl, hb2⟩
 clear q0 q1
 have b1 := b1.below hb2 (by omega)
 have b2 := b2.below hb2 (by omega)
 have b3 := b3.below hb2 (by omega)
 have k1 := b1.c1
 have k3 := b2.c0
 have k4 := b2.c1
 have k5 := b2.f 0
 have k6 := b2.f 1
 have j3 := b3.c0
 have j4 := b3.c1
 have j5 := b3.f 0
 have j6 := b3.f 1
 generalize hr : w.heap.size = r at *
 have HRW := hI (And.intro hb hr)
 clear hb hr
 go_wp2
 exact bodyPost_ret (v := .tuple #[.agg #[.bool false, .slice none 0 0], .agg #[.bool false, .slice none 0 0], .int .i64 1]) (by simp [results, Tryz.results48, go_sem, k3, k4, j3, j4]) rfl
  ⟨none, 0, 0, [], none, 0, 0, [], rfl, Sl.nil _ _, Nz.nil, rfl, Sl.nil _ _, Nz.nil, rfl, by rw [HRW.out.2]; exact zA1 (zA1 (zA (zA HRW.out.1 (by omega) hb1) (by omega) hb2) (show r <= r + 1 + 1 by omega) _ _) (show r <= r + 1 + 1 + 1 by omega) _ _⟩
theorem rdivMod_zero (neg neg' : Bool) (A A' : Option Addr) (n c n' c' : Nat) (xs ys : List Nat) (w : World) (h : Sl w w.heap.size A n c xs) (h' : Sl w w.heap.size A' n' c' ys) (hv : vld neg xs = true) (hv' : vld neg' ys = true) (h0 : ys = []) :
 Calls Tryz.prog 48 #[.agg #[.bool neg, .slice A n c], .agg #[.bool neg', .slice A' n' c']] w (zF2 0 0 4 w) := by
 obtain rfl : n' = 0 := by have := h'.len; rw [h0] at this; simpa using this.symm
 clear h0
 go_enter Tryz.func48, Tryz.ntmps48
 go_wp2_with fail
 generalize hW : World.alloc (World.alloc (World.alloc (World.alloc w _) _) _) _ = W
 obtain ⟨hb, hz, b0, b1, b2, b3⟩ := zD1 neg neg' A A' n c 0 c' w W hW
 have hs := h.on hb
 have hs' := h'.on hb
 clear hW
 refine (zA3 _ _ _ _ _ xs _ hs (Nat.le_refl _)).mono ?_
 rintro e w1 ⟨rfl, hb1⟩
 have hz1 : w.heap.size + 1 + 1 + 1 < w1.heap.size := by have := hb1.size; omega
 have b1 := b1.below hb1 (by omega)
 have b2 := b2.below hb1 (by omega)
 have b3 := b3.below hb1 (by omega)
 have q0 := b1.c0
 have q1 := b1.c1
 go_wp2_with fail
 refine (zA3 _ _ _ _ _ ys _ (hs'.on hb1) (Nat.le_refl _)).mono ?_
 rintro e w2 ⟨rfl, hb2⟩
 clear q0 q1
 have b1 := b1.below hb2 (by omega)
 have b2 := b2.below hb2 (by omega)
 have b3 := b3.below hb2 (by omega)
 have k1 := b1.c1
 have k3 := b2.c0
 have k4 := b2.c1
 have k5 := b2.f 0
 have k6 := b2.f 1
 have j3 := b3.c0
 have j4 := b3.c1
 have j5 := b3.f 0
 have j6 := b3.f 1
 generalize hr : w.heap.size = r at *
 have HRW := hI (And.intro hb hr)
 clear hb hr
 go_wp2
 exact bodyPost_ret (v := .tuple #[.agg #[.bool false, .slice none 0 0], .agg #[.bool false, .slice none 0 0], .int .i64 4]) (by simp [results, Tryz.results48, go_sem, k3, k4, j3, j4]) rfl
  ⟨none, 0, 0, [], none, 0, 0, [], rfl, Sl.nil _ _, Nz.nil, rfl, Sl.nil _ _, Nz.nil, rfl, by rw [HRW.out.2]; exact zA1 (zA1 (zA (zA HRW.out.1 (by omega) hb1) (by omega) hb2) (show r <= r + 1 + 1 by omega) _ _) (show r <= r + 1 + 1 + 1 by omega) _ _⟩
theorem rdivMod_ff (A A' : Option Addr) (n c n' c' : Nat) (xs ys : List Nat) (w : World) (h : Sl w w.heap.size A n c xs) (h' : Sl w w.heap.size A' n' c' ys)
 (hv : vld false xs = true) (hv' : vld false ys = true) (h0 : ys ≠ []) (zq zr : Int) (hzq : sg false (val xs / val ys : Nat) = zq) (hzr : sg false (val xs % val ys : Nat) = zr) (bq : zq.natAbs < BIG) (br : zr.natAbs < BIG) :
 Calls Tryz.prog 48 #[.agg #[.bool false, .slice A n c], .agg #[.bool false, .slice A' n' c']] w (zF2 zq zr 0 w) := by
 have Hg := hI (And.intro (zA2 hv) (zA2 hv'))
 have hn0 : 0 < n' := by
  have := h'.len
  rcases Nat.eq_zero_or_pos n' with e | e
  . rw [e] at this; exact absurd (List.eq_nil_of_length_eq_zero this) h0
  . exact e
 have Hpos := hI (zB4 Hg.out.2.2.1 h0)
 have HZ := hI (And.intro hzq (And.intro hzr (And.intro bq br)))
 have Hlen := hI (And.intro h.len h'.len)
 clear h0 hzq hzr bq br
 have i4 : ((n' : Int) == 0) = false := by rw [beq_eq_false_iff_ne]; omega
 go_enter Tryz.func48, Tryz.ntmps48
 go_wp2_with fail
 generalize hW : World.alloc (World.alloc (World.alloc (World.alloc w _) _) _) _ = W
 obtain ⟨hb, hz, b0, b1, b2, b3⟩ := zD1 false false A A' n c n' c' w W hW
 have hs := h.on hb
 have hs' := h'.on hb
 clear hW h h'
 generalize hr : w.heap.size = r at *
 have HB := hI hb
 have HR := hI hr
 clear hb hr
 refine (zA3 _ _ _ _ _ xs _ hs (Nat.le_refl _)).mono ?_
 rintro e w1 ⟨rfl, hb1⟩
 have hsz : r <= W.heap.size := Nat.le_of_lt b0.lt
 replace b0 := b0.below hb1 b0.lt
 replace b1 := b1.below hb1 b1.lt
 replace b2 := b2.below hb1 b2.lt
 replace b3 := b3.below hb1 b3.lt
 replace hs := hs.on hb1
 replace hs' := hs'.on hb1
 replace HB := hI (show Below r w w1 from zA HB.out hsz hb1)
 clear hb1 hsz
 have q0 := b1.c0
 have q1 := b1.c1
 go_wp2_with fail
 refine (zA3 _ _ _ _ _ ys _ hs' (Nat.le_refl _)).mono ?_
 rintro e w2 ⟨rfl, hb2⟩
 clear q0 q1
 have hsz : r <= w1.heap.size := Nat.le_of_lt b0.lt
 replace b0 := b0.below hb2 b0.lt
 replace b1 := b1.below hb2 b1.lt
 replace b2 := b2.below hb2 b2.lt
 replace b3 := b3.below hb2 b3.lt
 replace hs := hs.on hb2
 replace hs' := hs'.on hb2
 replace HB := hI (show Below r w w2 from zA HB.out hsz hb2)
 clear hb2 hsz
 have q0 := b0.c1
 have q1 := b1.c1
 go_wp2_with fail
 refine (zH3 _ _ _ _ _ _ xs ys _ hs hs' Hg.out.1.2.1 Hg.out.2.2.1 (by have := Hg.out.1.1; have := Hlen.out.1; omega) (by have := Hg.out.2.1; have := Hlen.out.2; omega) Hpos.out).mono ?_
 rintro e w3 ⟨A3, n3, c3, xs3, A4, n4, c4, xs4, rfl, hs3, hx3, hv3, hs4, hx4, hv4, hb3⟩
 clear q0 q1
 have hsz : r <= w2.heap.size := Nat.le_of_lt b0.lt
 replace b0 := b0.below hb3 b0.lt
 replace b1 := b1.below hb3 b1.lt
 replace b2 := b2.below hb3 b2.lt
 replace b3 := b3.below hb3 b3.lt
 replace hs := hs.on hb3
 replace hs' := hs'.on hb3
 replace HB := hI (show Below r w w3 from zA HB.out hsz hb3)
 clear hb3 hsz
 have Hv3 := hI (And.intro hx3 hv3)
 have Hv4 := hI (And.intro hx4 hv4)
 clear hx3 hv3 hx4 hv4
 have k0 := b0.c0
 have k1 := b1.c0
 have k2 := b1.c1
 have l0 := b0.lt
 have l1 := b1.lt
 go_wp2_with fail
 have C := zD8 false _ _ _ xs3 _ hs3 Hv3.out.1
 have hfq : fitZ (sg false (val xs3)) = zq /\ fitE (sg false (val xs3)) = 0 := by
  rw [Hv3.out.2]
  have := HZ.out.1
  rw [this]
  exact zB1 HZ.out.2.2.1
 rw [hfq.1, hfq.2] at C
 clear hfq
 refine C.mono ?_
 clear C
 rintro e w8 ⟨A8, n8, c8, xs8, rfl, hs8, hx8, hv8, hb8⟩
 clear k0 k1 k2 l0 l1
 have hsz : r <= w3.heap.size := Nat.le_of_lt b0.lt
 replace b0 := b0.below hb8 b0.lt
 replace b1 := b1.below hb8 b1.lt
 replace b2 := b2.below hb8 b2.lt
 replace b3 := b3.below hb8 b3.lt
 replace hs4 := hs4.on hb8
 replace HB := hI (show Below r w w8 from zA HB.out hsz hb8)
 clear hb8 hsz
 have H8 := hI (And.intro hx8 hv8)
 clear hx8 hv8
 have k1 := b1.c0
 have l1 := b1.lt
 go_wp2_with fail
 clear k1 l1
 generalize hW : World.alloc w8 _ = V8
 have hbn : Below w8.heap.size w8 V8 := by rw [<- hW]; exact zB5 _ _
 have x9 : Bx V8 w8.heap.size (decide (zq < 0)) A8 n8 c8 := by rw [<- hW]; exact Bx.new _ _ _ _ _
 have G9 := hI (And.intro b0.lt (And.intro b1.lt (And.intro b2.lt b3.lt)))
 clear hW
 have hsz : r <= w8.heap.size := Nat.le_of_lt b0.lt
 replace b0 := b0.below hbn b0.lt
 replace b1 := b1.below hbn b1.lt
 replace b2 := b2.below hbn b2.lt
 replace b3 := b3.below hbn b3.lt
 replace hs8 := hs8.on hbn
 replace hs4 := hs4.on hbn
 replace HB := hI (show Below r w V8 from zA HB.out hsz hbn)
 clear hbn hsz
 have C := zD8 false _ _ _ xs4 _ hs4 Hv4.out.1
 have hfr : fitZ (sg false (val xs4)) = zr /\ fitE (sg false (val xs4)) = 0 := by
  rw [Hv4.out.2]
  have := HZ.out.2.1
  rw [this]
  exact zB1 HZ.out.2.2.2
 rw [hfr.1, hfr.2] at C
 clear hfr
 refine C.mono ?_
 clear C
 rintro e w9 ⟨A9, n9, c9, xs9, rfl, hs9, hx9, hv9, hb9⟩
 replace x9 := x9.below hb9 x9.lt
 have hsz : r <= V8.heap.size := Nat.le_of_lt b0.lt
 replace b0 := b0.below hb9 b0.lt
 replace b1 := b1.below hb9 b1.lt
 replace b2 := b2.below hb9 b2.lt
 replace b3 := b3.below hb9 b3.lt
 replace hs8 := hs8.on hb9
 replace HB := hI (show Below r w w9 from zA HB.out hsz hb9)
 clear hb9 hsz
 have H9 := hI (And.intro hx9 hv9)
 clear hx9 hv9
 go_wp2_with fail
 generalize hW : World.alloc w9 _ = V9
 have hbn : Below w9.heap.size w9 V9 := by rw [<- hW]; exact zB5 _ _
 have x11 : Bx V9 w9.heap.size (decide (zr < 0)) A9 n9 c9 := by rw [<- hW]; exact Bx.new _ _ _ _ _
 have G11 := hI (And.intro x9.lt (And.intro b2.lt b3.lt))
 clear hW
 replace x9 := x9.below hbn x9.lt
 have hsz : r <= w9.heap.size := Nat.le_of_lt b0.lt
 replace b0 := b0.below hbn b0.lt
 replace b1 := b1.below hbn b1.lt
 replace b2 := b2.below hbn b2.lt
 replace b3 := b3.below hbn b3.lt
 replace hs8 := hs8.on hbn
 replace hs9 := hs9.on hbn
 replace HB := hI (show Below r w V9 from zA HB.out hsz hbn)
 clear hbn hsz
 generalize w8.heap.size = p at *
 generalize w9.heap.size = q at *
 have g1 := G9.out
 have g2 := G11.out
 have HW := hI (And.intro b2 b3)
 have k0 := x9.c0
 have k1 := x9.c1
 have k2 := x11.c0
 have k3 := x11.c1
 have k4 := b2.c0
 have k5 := b2.c1
 have k6 := b2.f 0
 have k7 := b2.f 1
 have k8 := b3.c0
 have k9 := b3.c1
 have k10 := b3.f 0
 have k11 := b3.f 1
 have e1 : p ≠ r + 1 + 1 := by omega
 have e2 : p ≠ r + 1 + 1 + 1 := by omega
 have e3 : q ≠ r + 1 + 1 := by omega
 have e4 : q ≠ r + 1 + 1 + 1 := by omega
 have e5 := e1.symm
 have e6 := e2.symm
 have e7 := e3.symm
 have e8 := e4.symm
 clear g1 g2
 go_region
 all_goals go_wp2
 refine bodyPost_ret (v := .tuple #[.agg #[.bool (decide (zq < 0)), .slice A8 n8 c8], .agg #[.bool (decide (zr < 0)), .slice A9 n9 c9], .int .i64 0]) (by simp [results, Tryz.results48, go_sem, k4, k5, k8, k9]) rfl
  ⟨A8, n8, c8, xs8, A9, n9, c9, xs9, rfl, (hs8.ret2 HW.out.1 HW.out.2 (by omega) _ _ _ _).drew, H8.out.1, H8.out.2, (hs9.ret2 HW.out.1 HW.out.2 (by omega) _ _ _ _).drew, H9.out.1, H9.out.2, by rw [HR.out]; exact (zA1 (zA1 HB.out (show r <= r + 1 + 1 by omega) _ _) (show r <= r + 1 + 1 + 1 by omega) _ _).drew⟩
theorem rdivMod_tt (A A' : Option Addr) (n c n' c' : Nat) (xs ys : List Nat) (w : World) (h : Sl w w.heap.size A n c xs) (h' : Sl w w.heap.size A' n' c' ys)
 (hv : vld true xs = true) (hv' : vld true ys = true) (h0 : ys ≠ []) (zq zr : Int) (hzq : sg false (val xs / val ys : Nat) = zq) (hzr : sg true (val xs % val ys : Nat) = zr) (bq : zq.natAbs < BIG) (br : zr.natAbs < BIG) :
 Calls Tryz.prog 48 #[.agg #[.bool true, .slice A n c], .agg #[.bool true, .slice A' n' c']] w (zF2 zq zr 0 w) := by
 have Hg := hI (And.intro (zA2 hv) (zA2 hv'))
 have hn0 : 0 < n' := by
  have := h'.len
  rcases Nat.eq_zero_or_pos n' with e | e
  . rw [e] at this; exact absurd (List.eq_nil_of_length_eq_zero this) h0
  . exact e
 have Hpos := hI (zB4 Hg.out.2.2.1 h0)
 have HZ := hI (And.intro hzq (And.intro hzr (And.intro bq br)))
 have Hlen := hI (And.intro h.len h'.len)
 clear h0 hzq hzr bq br
 have i4 : ((n' : Int) == 0) = false := by rw [beq_eq_false_iff_ne]; omega
 go_enter Tryz.func48, Tryz.ntmps48
 go_wp2_with fail
 generalize hW : World.alloc (World.alloc (World.alloc (World.alloc w _) _) _) _ = W
 obtain ⟨hb, hz, b0, b1, b2, b3⟩ := zD1 true true A A' n c n' c' w W hW
 have hs := h.on hb
 have hs' := h'.on hb
 clear hW h h'
 generalize hr : w.heap.size = r at *
 have HB := hI hb
 have HR := hI hr
 clear hb hr
 refine (zA3 _ _ _ _ _ xs _ hs (Nat.le_refl _)).mono ?_
 rintro e w1 ⟨rfl, hb1⟩
 have hsz : r <= W.heap.size := Nat.le_of_lt b0.lt
 replace b0 := b0.below hb1 b0.lt
 replace b1 := b1.below hb1 b1.lt
 replace b2 := b2.below hb1 b2.lt
 replace b3 := b3.below hb1 b3.lt
 replace hs := hs.on hb1
 replace hs' := hs'.on hb1
 replace HB := hI (show Below r w w1 from zA HB.out hsz hb1)
 clear hb1 hsz
 have q0 := b1.c0
 have q1 := b1.c1
 go_wp2_with fail
 refine (zA3 _ _ _ _ _ ys _ hs' (Nat.le_refl _)).mono ?_
 rintro e w2 ⟨rfl, hb2⟩
 clear q0 q1
 have hsz : r <= w1.heap.size := Nat.le_of_lt b0.lt
 replace b0 := b0.below hb2 b0.lt
 replace b1 := b1.below hb2 b1.lt
 replace b2 := b2.below hb2 b2.lt
 replace b3 := b3.below hb2 b3.lt
 replace hs := hs.on hb2
 replace hs' := hs'.on hb2
 replace HB := hI (show Below r w w2 from zA HB.out hsz hb2)
 clear hb2 hsz
 have q0 := b0.c1
 have q1 := b1.c1
 go_wp2_with fail
 refine (zH3 _ _ _ _ _ _ xs ys _ hs hs' Hg.out.1.2.1 Hg.out.2.2.1 (by have := Hg.out.1.1; have := Hlen.out.1; omega) (by have := Hg.out.2.1; have := Hlen.out.2; omega) Hpos.out).mono ?_
 rintro e w3 ⟨A3, n3, c3, xs3, A4, n4, c4, xs4, rfl, hs3, hx3, hv3, hs4, hx4, hv4, hb3⟩
 clear q0 q1
 have hsz : r <= w2.heap.size := Nat.le_of_lt b0.lt
 replace b0 := b0.below hb3 b0.lt
 replace b1 := b1.below hb3 b1.lt
 replace b2 := b2.below hb3 b2.lt
 replace b3 := b3.below hb3 b3.lt
 replace hs := hs.on hb3
 replace hs' := hs'.on hb3
 replace HB := hI (show Below r w w3 from zA HB.out hsz hb3)
 clear hb3 hsz
 have Hv3 := hI (And.intro hx3 hv3)
 have Hv4 := hI (And.intro hx4 hv4)
 clear hx3 hv3 hx4 hv4
 have k0 := b0.c0
 have k1 := b1.c0
 have k2 := b1.c1
 have l0 := b0.lt
 have l1 := b1.lt
 go_wp2_with fail
 have C := zD8 false _ _ _ xs3 _ hs3 Hv3.out.1
 have hfq : fitZ (sg false (val xs3)) = zq /\ fitE (sg false (val xs3)) = 0 := by
  rw [Hv3.out.2]
  have := HZ.out.1
  rw [this]
  exact zB1 HZ.out.2.2.1
 rw [hfq.1, hfq.2] at C
 clear hfq
 refine C.mono ?_
 clear C
 rintro e w8 ⟨A8, n8, c8, xs8, rfl, hs8, hx8, hv8, hb8⟩
 clear k0 k1 k2 l0 l1
 have hsz : r <= w3.heap.size := Nat.le_of_lt b0.lt
 replace b0 := b0.below hb8 b0.lt
 replace b1 := b1.below hb8 b1.lt
 replace b2 := b2.below hb8 b2.lt
 replace b3 := b3.below hb8 b3.lt
 replace hs4 := hs4.on hb8
 replace HB := hI (show Below r w w8 from zA HB.out hsz hb8)
 clear hb8 hsz
 have H8 := hI (And.intro hx8 hv8)
 clear hx8 hv8
 have k1 := b1.c0
 have l1 := b1.lt
 go_wp2_with fail
 clear k1 l1
 generalize hW : World.alloc w8 _ = V8
 have hbn : Below w8.heap.size w8 V8 := by rw [<- hW]; exact zB5 _ _
 have x9 : Bx V8 w8.heap.size (decide (zq < 0)) A8 n8 c8 := by rw [<- hW]; exact Bx.new _ _ _ _ _
 have G9 := hI (And.intro b0.lt (And.intro b1.lt (And.intro b2.lt b3.lt)))
 clear hW
 have hsz : r <= w8.heap.size := Nat.le_of_lt b0.lt
 replace b0 := b0.below hbn b0.lt
 replace b1 := b1.below hbn b1.lt
 replace b2 := b2.below hbn b2.lt
 replace b3 := b3.below hbn b3.lt
 replace hs8 := hs8.on hbn
 replace hs4 := hs4.on hbn
 replace HB := hI (show Below r w V8 from zA HB.out hsz hbn)
 clear hbn hsz
 have C := zD8 true _ _ _ xs4 _ hs4 Hv4.out.1
 have hfr : fitZ (sg true (val xs4)) = zr /\ fitE (sg true (val xs4)) = 0 := by
  rw [Hv4.out.2]
  have := HZ.out.2.1
  rw [this]
  exact zB1 HZ.out.2.2.2
 rw [hfr.1, hfr.2] at C
 clear hfr
 refine C.mono ?_
 clear C
 rintro e w9 ⟨A9, n9, c9, xs9, rfl, hs9, hx9, hv9, hb9⟩
 replace x9 := x9.below hb9 x9.lt
 have hsz : r <= V8.heap.size := Nat.le_of_lt b0.lt
 replace b0 := b0.below hb9 b0.lt
 replace b1 := b1.below hb9 b1.lt
 replace b2 := b2.below hb9 b2.lt
 replace b3 := b3.below hb9 b3.lt
 replace hs8 := hs8.on hb9
 replace HB := hI (show Below r w w9 from zA HB.out hsz hb9)
 clear hb9 hsz
 have H9 := hI (And.intro hx9 hv9)
 clear hx9 hv9
 go_wp2_with fail
 generalize hW : World.alloc w9 _ = V9
 have hbn : Below w9.heap.size w9 V9 := by rw [<- hW]; exact zB5 _ _
 have x11 : Bx V9 w9.heap.size (decide (zr < 0)) A9 n9 c9 := by rw [<- hW]; exact Bx.new _ _ _ _ _
 have G11 := hI (And.intro x9.lt (And.intro b2.lt b3.lt))
 clear hW
 replace x9 := x9.below hbn x9.lt
 have hsz : r <= w9.heap.size := Nat.le_of_lt b0.lt
 replace b0 := b0.below hbn b0.lt
 replace b1 := b1.below hbn b1.lt
 replace b2 := b2.below hbn b2.lt
 replace b3 := b3.below hbn b3.lt
 replace hs8 := hs8.on hbn
 replace hs9 := hs9.on hbn
 replace HB := hI (show Below r w V9 from zA HB.out hsz hbn)
 clear hbn hsz
 generalize w8.heap.size = p at *
 generalize w9.heap.size = q at *
 have g1 := G9.out
 have g2 := G11.out
 have HW := hI (And.intro b2 b3)
 have k0 := x9.c0
 have k1 := x9.c1
 have k2 := x11.c0
 have k3 := x11.c1
 have k4 := b2.c0
 have k5 := b2.c1
 have k6 := b2.f 0
 have k7 := b2.f 1
 have k8 := b3.c0
 have k9 := b3.c1
 have k10 := b3.f 0
 have k11 := b3.f 1
 have e1 : p ≠ r + 1 + 1 := by omega
 have e2 : p ≠ r + 1 + 1 + 1 := by omega
 have e3 : q ≠ r + 1 + 1 := by omega
 have e4 : q ≠ r + 1 + 1 + 1 := by omega
 have e5 := e1.symm
 have e6 := e2.symm
 have e7 := e3.symm
 have e8 := e4.symm
 clear g1 g2
 go_region
 all_goals go_wp2
 refine bodyPost_ret (v := .tuple #[.agg #[.bool (decide (zq < 0)), .slice A8 n8 c8], .agg #[.bool (decide (zr < 0)), .slice A9 n9 c9], .int .i64 0]) (by simp [results, Tryz.results48, go_sem, k4, k5, k8, k9]) rfl
  ⟨A8, n8, c8, xs8, A9, n9, c9, xs9, rfl, (hs8.ret2 HW.out.1 HW.out.2 (by omega) _ _ _ _).drew, H8.out.1, H8.out.2, (hs9.ret2 HW.out.1 HW.out.2 (by omega) _ _ _ _).drew, H9.out.1, H9.out.2, by rw [HR.out]; exact (zA1 (zA1 HB.out (show r <= r + 1 + 1 by omega) _ _) (show r <= r + 1 + 1 + 1 by omega) _ _).drew⟩
theorem rdivMod_ft (A A' : Option Addr) (n c n' c' : Nat) (xs ys : List Nat) (w : World) (h : Sl w w.heap.size A n c xs) (h' : Sl w w.heap.size A' n' c' ys)
 (hv : vld false xs = true) (hv' : vld true ys = true) (h0 : ys ≠ []) (hk : val xs % val ys = 0) (zq zr : Int) (hzq : sg true (val xs / val ys : Nat) = zq) (hzr : sg true (val xs % val ys : Nat) = zr) (bq : zq.natAbs < BIG) (br : zr.natAbs < BIG) :
 Calls Tryz.prog 48 #[.agg #[.bool false, .slice A n c], .agg #[.bool true, .slice A' n' c']] w (zF2 zq zr 0 w) := by
 have Hg := hI (And.intro (zA2 hv) (zA2 hv'))
 have hn0 : 0 < n' := by
  have := h'.len
  rcases Nat.eq_zero_or_pos n' with e | e
  . rw [e] at this; exact absurd (List.eq_nil_of_length_eq_zero this) h0
  . exact e
 have Hpos := hI (zB4 Hg.out.2.2.1 h0)
 have HZ := hI (And.intro hzq (And.intro hzr (And.intro bq br)))
 have Hlen := hI (And.intro h.len h'.len)
 clear h0 hzq hzr bq br
 have Hk := hI hk
 clear hk
 have i4 : ((n' : Int) == 0) = false := by rw [beq_eq_false_iff_ne]; omega
 go_enter Tryz.func48, Tryz.ntmps48
 go_wp2_with fail
 generalize hW : World.alloc (World.alloc (World.alloc (World.alloc w _) _) _) _ = W
 obtain ⟨hb, hz, b0, b1, b2, b3⟩ := zD1 false true A A' n c n' c' w W hW
 have hs := h.on hb
 have hs' := h'.on hb
 clear hW h h'
 generalize hr : w.heap.size = r at *
 have HB := hI hb
 have HR := hI hr
 clear hb hr
 refine (zA3 _ _ _ _ _ xs _ hs (Nat.le_refl _)).mono ?_
 rintro e w1 ⟨rfl, hb1⟩
 have hsz : r <= W.heap.size := Nat.le_of_lt b0.lt
 replace b0 := b0.below hb1 b0.lt
 replace b1 := b1.below hb1 b1.lt
 replace b2 := b2.below hb1 b2.lt
 replace b3 := b3.below hb1 b3.lt
 replace hs := hs.on hb1
 replace hs' := hs'.on hb1
 replace HB := hI (show Below r w w1 from zA HB.out hsz hb1)
 clear hb1 hsz
 have q0 := b1.c0
 have q1 := b1.c1
 go_wp2_with fail
 refine (zA3 _ _ _ _ _ ys _ hs' (Nat.le_refl _)).mono ?_
 rintro e w2 ⟨rfl, hb2⟩
 clear q0 q1
 have hsz : r <= w1.heap.size := Nat.le_of_lt b0.lt
 replace b0 := b0.below hb2 b0.lt
 replace b1 := b1.below hb2 b1.lt
 replace b2 := b2.below hb2 b2.lt
 replace b3 := b3.below hb2 b3.lt
 replace hs := hs.on hb2
 replace hs' := hs'.on hb2
 replace HB := hI (show Below r w w2 from zA HB.out hsz hb2)
 clear hb2 hsz
 have q0 := b0.c1
 have q1 := b1.c1
 go_wp2_with fail
 refine (zH3 _ _ _ _ _ _ xs ys _ hs hs' Hg.out.1.2.1 Hg.out.2.2.1 (by have := Hg.out.1.1; have := Hlen.out.1; omega) (by have := Hg.out.2.1; have := Hlen.out.2; omega) Hpos.out).mono ?_
 rintro e w3 ⟨A3, n3, c3, xs3, A4, n4, c4, xs4, rfl, hs3, hx3, hv3, hs4, hx4, hv4, hb3⟩
 clear q0 q1
 have hsz : r <= w2.heap.size := Nat.le_of_lt b0.lt
 replace b0 := b0.below hb3 b0.lt
 replace b1 := b1.below hb3 b1.lt
 replace b2 := b2.below hb3 b2.lt
 replace b3 := b3.below hb3 b3.lt
 replace hs := hs.on hb3
 replace hs' := hs'.on hb3
 replace HB := hI (show Below r w w3 from zA HB.out hsz hb3)
 clear hb3 hsz
 have Hv3 := hI (And.intro hx3 hv3)
 have Hv4 := hI (And.intro hx4 hv4)
 clear hx3 hv3 hx4 hv4
 have hn4 : n4 = 0 := by
  have e := zL1 Hv4.out.1 (by rw [Hv4.out.2, Hk.out])
  have := hs4.len
  rw [e] at this
  exact this.symm
 have hn4' : (n4 : Int) <= 0 := by omega
 clear hn4
 have k0 := b0.c0
 have k1 := b1.c0
 have k2 := b1.c1
 have l0 := b0.lt
 have l1 := b1.lt
 go_wp2_with fail
 have C := zD8 true _ _ _ xs3 _ hs3 Hv3.out.1
 have hfq : fitZ (sg true (val xs3)) = zq /\ fitE (sg true (val xs3)) = 0 := by
  rw [Hv3.out.2]
  have := HZ.out.1
  rw [this]
  exact zB1 HZ.out.2.2.1
 rw [hfq.1, hfq.2] at C
 clear hfq
 refine C.mono ?_
 clear C
 rintro e w8 ⟨A8, n8, c8, xs8, rfl, hs8, hx8, hv8, hb8⟩
 clear k0 k1 k2 l0 l1
 have hsz : r <= w3.heap.size := Nat.le_of_lt b0.lt
 replace b0 := b0.below hb8 b0.lt
 replace b1 := b1.below hb8 b1.lt
 replace b2 := b2.below hb8 b2.lt
 replace b3 := b3.below hb8 b3.lt
 replace hs4 := hs4.on hb8
 replace HB := hI (show Below r w w8 from zA HB.out hsz hb8)
 clear hb8 hsz
 have H8 := hI (And.intro hx8 hv8)
 clear hx8 hv8
 have k1 := b1.c0
 have l1 := b1.lt
 go_wp2_with fail
 clear k1 l1
 generalize hW : World.alloc w8 _ = V8
 have hbn : Below w8.heap.size w8 V8 := by rw [<- hW]; exact zB5 _ _
 have x9 : Bx V8 w8.heap.size (decide (zq < 0)) A8 n8 c8 := by rw [<- hW]; exact Bx.new _ _ _ _ _
 have G9 := hI (And.intro b0.lt (And.intro b1.lt (And.intro b2.lt b3.lt)))
 clear hW
 have hsz : r <= w8.heap.size := Nat.le_of_lt b0.lt
 replace b0 := b0.below hbn b0.lt
 replace b1 := b1.below hbn b1.lt
 replace b2 := b2.below hbn b2.lt
 replace b3 := b3.below hbn b3.lt
 replace hs8 := hs8.on hbn
 replace hs4 := hs4.on hbn
 replace HB := hI (show Below r w V8 from zA HB.out hsz hbn)
 clear hbn hsz
 have C := zD8 true _ _ _ xs4 _ hs4 Hv4.out.1
 have hfr : fitZ (sg true (val xs4)) = zr /\ fitE (sg true (val xs4)) = 0 := by
  rw [Hv4.out.2]
  have := HZ.out.2.1
  rw [this]
  exact zB1 HZ.out.2.2.2
 rw [hfr.1, hfr.2] at C
 clear hfr
 refine C.mono ?_
 clear C
 rintro e w9 ⟨A9, n9, c9, xs9, rfl, hs9, hx9, hv9, hb9⟩
 replace x9 := x9.below hb9 x9.lt
 have hsz : r <= V8.heap.size := Nat.le_of_lt b0.lt
 replace b0 := b0.below hb9 b0.lt
 replace b1 := b1.below hb9 b1.lt
 replace b2 := b2.below hb9 b2.lt
 replace b3 := b3.below hb9 b3.lt
 replace hs8 := hs8.on hb9
 replace HB := hI (show Below r w w9 from zA HB.out hsz hb9)
 clear hb9 hsz
 have H9 := hI (And.intro hx9 hv9)
 clear hx9 hv9
 go_wp2_with fail
 generalize hW : World.alloc w9 _ = V9
 have hbn : Below w9.heap.size w9 V9 := by rw [<- hW]; exact zB5 _ _
 have x11 : Bx V9 w9.heap.size (decide (zr < 0)) A9 n9 c9 := by rw [<- hW]; exact Bx.new _ _ _ _ _
 have G11 := hI (And.intro x9.lt (And.intro b2.lt b3.lt))
 clear hW
 replace x9 := x9.below hbn x9.lt
 have hsz : r <= w9.heap.size := Nat.le_of_lt b0.lt
 replace b0 := b0.below hbn b0.lt
 replace b1 := b1.below hbn b1.lt
 replace b2 := b2.below hbn b2.lt
 replace b3 := b3.below hbn b3.lt
 replace hs8 := hs8.on hbn
 replace hs9 := hs9.on hbn
 replace HB := hI (show Below r w V9 from zA HB.out hsz hbn)
 clear hbn hsz
 generalize w8.heap.size = p at *
 generalize w9.heap.size = q at *
 have g1 := G9.out
 have g2 := G11.out
 have HW := hI (And.intro b2 b3)
 have k0 := x9.c0
 have k1 := x9.c1
 have k2 := x11.c0
 have k3 := x11.c1
 have k4 := b2.c0
 have k5 := b2.c1
 have k6 := b2.f 0
 have k7 := b2.f 1
 have k8 := b3.c0
 have k9 := b3.c1
 have k10 := b3.f 0
 have k11 := b3.f 1
 have e1 : p ≠ r + 1 + 1 := by omega
 have e2 : p ≠ r + 1 + 1 + 1 := by omega
 have e3 : q ≠ r + 1 + 1 := by omega
 have e4 : q ≠ r + 1 + 1 + 1 := by omega
 have e5 := e1.symm
 have e6 := e2.symm
 have e7 := e3.symm
 have e8 := e4.symm
 clear g1 g2
 go_region
 all_goals go_wp2
 refine bodyPost_ret (v := .tuple #[.agg #[.bool (decide (zq < 0)), .slice A8 n8 c8], .agg #[.bool (decide (zr < 0)), .slice A9 n9 c9], .int .i64 0]) (by simp [results, Tryz.results48, go_sem, k4, k5, k8, k9]) rfl
  ⟨A8, n8, c8, xs8, A9, n9, c9, xs9, rfl, (hs8.ret2 HW.out.1 HW.out.2 (by omega) _ _ _ _).drew, H8.out.1, H8.out.2, (hs9.ret2 HW.out.1 HW.out.2 (by omega) _ _ _ _).drew, H9.out.1, H9.out.2, by rw [HR.out]; exact (zA1 (zA1 HB.out (show r <= r + 1 + 1 by omega) _ _) (show r <= r + 1 + 1 + 1 by omega) _ _).drew⟩
theorem rdivMod_tf (A A' : Option Addr) (n c n' c' : Nat) (xs ys : List Nat) (w : World) (h : Sl w w.heap.size A n c xs) (h' : Sl w w.heap.size A' n' c' ys)
 (hv : vld true xs = true) (hv' : vld false ys = true) (h0 : ys ≠ []) (hk : val xs % val ys = 0) (zq zr : Int) (hzq : sg true (val xs / val ys : Nat) = zq) (hzr : sg false (val xs % val ys : Nat) = zr) (bq : zq.natAbs < BIG) (br : zr.natAbs < BIG) :
 Calls Tryz.prog 48 #[.agg #[.bool true, .slice A n c], .agg #[.bool false, .slice A' n' c']] w (zF2 zq zr 0 w) := by
 have Hg := hI (And.intro (zA2 hv) (zA2 hv'))
 have hn0 : 0 < n' := by
  have := h'.len
  rcases Nat.eq_zero_or_pos n' with e | e
  . rw [e] at this; exact absurd (List.eq_nil_of_length_eq_zero this) h0
  . exact e
 have Hpos := hI (zB4 Hg.out.2.2.1 h0)
 have HZ := hI (And.intro hzq (And.intro hzr (And.intro bq br)))
 have Hlen := hI (And.intro h.len h'.len)
 clear h0 hzq hzr bq br
 have Hk := hI hk
 clear hk
 have i4 : ((n' : Int) == 0) = false := by rw [beq_eq_false_iff_ne]; omega
 go_enter Tryz.func48, Tryz.ntmps48
 go_wp2_with fail
 generalize hW : World.alloc (World.alloc (World.alloc (World.alloc w _) _) _) _ = W
 obtain ⟨hb, hz, b0, b1, b2, b3⟩ := zD1 true false A A' n c n' c' w W hW
 have hs := h.on hb
 have hs' := h'.on hb
 clear hW h h'
 generalize hr : w.heap.size = r at *
 have HB := hI hb
 have HR := hI hr
 clear hb hr
 refine (zA3 _ _ _ _ _ xs _ hs (Nat.le_refl _)).mono ?_
 rintro e w1 ⟨rfl, hb1⟩
 have hsz : r <= W.heap.size := Nat.le_of_lt b0.lt
 replace b0 := b0.below hb1 b0.lt
 replace b1 := b1.below hb1 b1.lt
 replace b2 := b2.below hb1 b2.lt
 replace b3 := b3.below hb1 b3.lt
 replace hs := hs.on hb1
 replace hs' := hs'.on hb1
 replace HB := hI (show Below r w w1 from zA HB.out hsz hb1)
 clear hb1 hsz
 have q0 := b1.c0
 have q1 := b1.c1
 go_wp2_with fail
 refine (zA3 _ _ _ _ _ ys _ hs' (Nat.le_refl _)).mono ?_
 rintro e w2 ⟨rfl, hb2⟩
 clear q0 q1
 have hsz : r <= w1.heap.size := Nat.le_of_lt b0.lt
 replace b0 := b0.below hb2 b0.lt
 replace b1 := b1.below hb2 b1.lt
 replace b2 := b2.below hb2 b2.lt
 replace b3 := b3.below hb2 b3.lt
 replace hs := hs.on hb2
 replace hs' := hs'.on hb2
 replace HB := hI (show Below r w w2 from zA HB.out hsz hb2)
 clear hb2 hsz
 have q0 := b0.c1
 have q1 := b1.c1
 go_wp2_with fail
 refine (zH3 _ _ _ _ _ _ xs ys _ hs hs' Hg.out.1.2.1 Hg.out.2.2.1 (by have := Hg.out.1.1; have := Hlen.out.1; omega) (by have := Hg.out.2.1; have := Hlen.out.2; omega) Hpos.out).mono ?_
 rintro e w3 ⟨A3, n3, c3, xs3, A4, n4, c4, xs4, rfl, hs3, hx3, hv3, hs4, hx4, hv4, hb3⟩
 clear q0 q1
 have hsz : r <= w2.heap.size := Nat.le_of_lt b0.lt
 replace b0 := b0.below hb3 b0.lt
 replace b1 := b1.below hb3 b1.lt
 replace b2 := b2.below hb3 b2.lt
 replace b3 := b3.below hb3 b3.lt
 replace hs := hs.on hb3
 replace hs' := hs'.on hb3
 replace HB := hI (show Below r w w3 from zA HB.out hsz hb3)
 clear hb3 hsz
 have Hv3 := hI (And.intro hx3 hv3)
 have Hv4 := hI (And.intro hx4 hv4)
 clear hx3 hv3 hx4 hv4
 have hn4 : n4 = 0 := by
  have e := zL1 Hv4.out.1 (by rw [Hv4.out.2, Hk.out])
  have := hs4.len
  rw [e] at this
  exact this.symm
 have hn4' : (n4 : Int) <= 0 := by omega
 clear hn4
 have k0 := b0.c0
 have k1 := b1.c0
 have k2 := b1.c1
 have l0 := b0.lt
 have l1 := b1.lt
 go_wp2_with fail
 have C := zD8 true _ _ _ xs3 _ hs3 Hv3.out.1
 have hfq : fitZ (sg true (val xs3)) = zq /\ fitE (sg true (val xs3)) = 0 := by
  rw [Hv3.out.2]
  have := HZ.out.1
  rw [this]
  exact zB1 HZ.out.2.2.1
 rw [hfq.1, hfq.2] at C
 clear hfq
 refine C.mono ?_
 clear C
 rintro e w8 ⟨A8, n8, c8, xs8, rfl, hs8, hx8, hv8, hb8⟩
 clear k0 k1 k2 l0 l1
 have hsz : r <= w3.heap.size := Nat.le_of_lt b0.lt
 replace b0 := b0.below hb8 b0.lt
 replace b1 := b1.below hb8 b1.lt
 replace b2 := b2.below hb8 b2.lt
 replace b3 := b3.below hb8 b3.lt
 replace hs4 := hs4.on hb8
 replace HB := hI (show Below r w w8 from zA HB.out hsz hb8)
 clear hb8 hsz
 have H8 := hI (And.intro hx8 hv8)
 clear hx8 hv8
 have k1 := b1.c0
 have l1 := b1.lt
 go_wp2_with fail
 clear k1 l1
 generalize hW : World.alloc w8 _ = V8
 have hbn : Below w8.heap.size w8 V8 := by rw [<- hW]; exact zB5 _ _
 have x9 : Bx V8 w8.heap.size (decide (zq < 0)) A8 n8 c8 := by rw [<- hW]; exact Bx.new _ _ _ _ _
 have G9 := hI (And.intro b0.lt (And.intro b1.lt (And.intro b2.lt b3.lt)))
 clear hW
 have hsz : r <= w8.heap.size := Nat.le_of_lt b0.lt
 replace b0 := b0.below hbn b0.lt
 replace b1 := b1.below hbn b1.lt
 replace b2 := b2.below hbn b2.lt
 replace b3 := b3.below hbn b3.lt
 replace hs8 := hs8.on hbn
 replace hs4 := hs4.on hbn
 replace HB := hI (show Below r w V8 from zA HB.out hsz hbn)
 clear hbn hsz
 have C := zD8 false _ _ _ xs4 _ hs4 Hv4.out.1
 have hfr : fitZ (sg false (val xs4)) = zr /\ fitE (sg false (val xs4)) = 0 := by
  rw [Hv4.out.2]
  have := HZ.out.2.1
  rw [this]
  exact zB1 HZ.out.2.2.2
 rw [hfr.1, hfr.2] at C
 clear hfr
 refine C.mono ?_
 clear C
 rintro e w9 ⟨A9, n9, c9, xs9, rfl, hs9, hx9, hv9, hb9⟩
 replace x9 := x9.below hb9 x9.lt
 have hsz : r <= V8.heap.size := Nat.le_of_lt b0.lt
 replace b0 := b0.below hb9 b0.lt
 replace b1 := b1.below hb9 b1.lt
 replace b2 := b2.below hb9 b2.lt
 replace b3 := b3.below hb9 b3.lt
 replace hs8 := hs8.on hb9
 replace HB := hI (show Below r w w9 from zA HB.out hsz hb9)
 clear hb9 hsz
 have H9 := hI (And.intro hx9 hv9)
 clear hx9 hv9
 go_wp2_with fail
 generalize hW : World.alloc w9 _ = V9
 have hbn : Below w9.heap.size w9 V9 := by rw [<- hW]; exact zB5 _ _
 have x11 : Bx V9 w9.heap.size (decide (zr < 0)) A9 n9 c9 := by rw [<- hW]; exact Bx.new _ _ _ _ _
 have G11 := hI (And.intro x9.lt (And.intro b2.lt b3.lt))
 clear hW
 replace x9 := x9.below hbn x9.lt
 have hsz : r <= w9.heap.size := Nat.le_of_lt b0.lt
 replace b0 := b0.below hbn b0.lt
 replace b1 := b1.below hbn b1.lt
 replace b2 := b2.below hbn b2.lt
 replace b3 := b3.below hbn b3.lt
 replace hs8 := hs8.on hbn
 replace hs9 := hs9.on hbn
 replace HB := hI (show Below r w V9 from zA HB.out hsz hbn)
 clear hbn hsz
 generalize w8.heap.size = p at *
 generalize w9.heap.size = q at *
 have g1 := G9.out
 have g2 := G11.out
 have HW := hI (And.intro b2 b3)
 have k0 := x9.c0
 have k1 := x9.c1
 have k2 := x11.c0
 have k3 := x11.c1
 have k4 := b2.c0
 have k5 := b2.c1
 have k6 := b2.f 0
 have k7 := b2.f 1
 have k8 := b3.c0
 have k9 := b3.c1
 have k10 := b3.f 0
 have k11 := b3.f 1
 have e1 : p ≠ r + 1 + 1 := by omega
 have e2 : p ≠ r + 1 + 1 + 1 := by omega
 have e3 : q ≠ r + 1 + 1 := by omega
 have e4 : q ≠ r + 1 + 1 + 1 := by omega
 have e5 := e1.symm
 have e6 := e2.symm
 have e7 := e3.symm
 have e8 := e4.symm
 clear g1 g2
 go_region
 all_goals go_wp2
 refine bodyPost_ret (v := .tuple #[.agg #[.bool (decide (zq < 0)), .slice A8 n8 c8], .agg #[.bool (decide (zr < 0)), .slice A9 n9 c9], .int .i64 0]) (by simp [results, Tryz.results48, go_sem, k4, k5, k8, k9]) rfl
  ⟨A8, n8, c8, xs8, A9, n9, c9, xs9, rfl, (hs8.ret2 HW.out.1 HW.out.2 (by omega) _ _ _ _).drew, H8.out.1, H8.out.2, (hs9.ret2 HW.out.1 HW.out.2 (by omega) _ _ _ _).drew, H9.out.1, H9.out.2, by rw [HR.out]; exact (zA1 (zA1 HB.out (show r <= r + 1 + 1 by omega) _ _) (show r <= r + 1 + 1 + 1 by omega) _ _).drew⟩
theorem rdivMod_ft1 (A A' : Option Addr) (n c n' c' : Nat) (xs ys : List Nat) (w : World) (h : Sl w w.heap.size A n c xs) (h' : Sl w w.heap.size A' n' c' ys)
 (hv : vld false xs = true) (hv' : vld true ys = true) (h0 : ys ≠ []) (hk : 0 < val xs % val ys) (zq zr : Int) (hzq : sg true (val xs / val ys + 1 : Nat) = zq) (hzr : sg true (val ys - val xs % val ys : Nat) = zr) (bq : zq.natAbs < BIG) (br : zr.natAbs < BIG) :
 Calls Tryz.prog 48 #[.agg #[.bool false, .slice A n c], .agg #[.bool true, .slice A' n' c']] w (zF2 zq zr 0 w) := by
 have Hg := hI (And.intro (zA2 hv) (zA2 hv'))
 have hn0 : 0 < n' := by
  have := h'.len
  rcases Nat.eq_zero_or_pos n' with e | e
  . rw [e] at this; exact absurd (List.eq_nil_of_length_eq_zero this) h0
  . exact e
 have Hpos := hI (zB4 Hg.out.2.2.1 h0)
 have HZ := hI (And.intro hzq (And.intro hzr (And.intro bq br)))
 have Hlen := hI (And.intro h.len h'.len)
 clear h0 hzq hzr bq br
 have Hk := hI hk
 clear hk
 have i4 : ((n' : Int) == 0) = false := by rw [beq_eq_false_iff_ne]; omega
 go_enter Tryz.func48, Tryz.ntmps48
 go_wp2_with fail
 generalize hW : World.alloc (World.alloc (World.alloc (World.alloc w _) _) _) _ = W
 obtain ⟨hb, hz, b0, b1, b2, b3⟩ := zD1 false true A A' n c n' c' w W hW
 have hs := h.on hb
 have hs' := h'.on hb
 clear hW h h'
 generalize hr : w.heap.size = r at *
 have HB := hI hb
 have HR := hI hr
 clear hb hr
 refine (zA3 _ _ _ _ _ xs _ hs (Nat.le_refl _)).mono ?_
 rintro e w1 ⟨rfl, hb1⟩
 have hsz : r <= W.heap.size := Nat.le_of_lt b0.lt
 replace b0 := b0.below hb1 b0.lt
 replace b1 := b1.below hb1 b1.lt
 replace b2 := b2.below hb1 b2.lt
 replace b3 := b3.below hb1 b3.lt
 replace hs := hs.on hb1
 replace hs' := hs'.on hb1
 replace HB := hI (show Below r w w1 from zA HB.out hsz hb1)
 clear hb1 hsz
 have q0 := b1.c0
 have q1 := b1.c1
 go_wp2_with fail
 refine (zA3 _ _ _ _ _ ys _ hs' (Nat.le_refl _)).mono ?_
 rintro e w2 ⟨rfl, hb2⟩
 clear q0 q1
 have hsz : r <= w1.heap.size := Nat.le_of_lt b0.lt
 replace b0 := b0.below hb2 b0.lt
 replace b1 := b1.below hb2 b1.lt
 replace b2 := b2.below hb2 b2.lt
 replace b3 := b3.below hb2 b3.lt
 replace hs := hs.on hb2
 replace hs' := hs'.on hb2
 replace HB := hI (show Below r w w2 from zA HB.out hsz hb2)
 clear hb2 hsz
 have q0 := b0.c1
 have q1 := b1.c1
 go_wp2_with fail
 refine (zH3 _ _ _ _ _ _ xs ys _ hs hs' Hg.out.1.2.1 Hg.out.2.2.1 (by have := Hg.out.1.1; have := Hlen.out.1; omega) (by have := Hg.out.2.1; have := Hlen.out.2; omega) Hpos.out).mono ?_
 rintro e w3 ⟨A3, n3, c3, xs3, A4, n4, c4, xs4, rfl, hs3, hx3, hv3, hs4, hx4, hv4, hb3⟩
 clear q0 q1
 have hsz : r <= w2.heap.size := Nat.le_of_lt b0.lt
 replace b0 := b0.below hb3 b0.lt
 replace b1 := b1.below hb3 b1.lt
 replace b2 := b2.below hb3 b2.lt
 replace b3 := b3.below hb3 b3.lt
 replace hs := hs.on hb3
 replace hs' := hs'.on hb3
 replace HB := hI (show Below r w w3 from zA HB.out hsz hb3)
 clear hb3 hsz
 have Hv3 := hI (And.intro hx3 hv3)
 have Hv4 := hI (And.intro hx4 hv4)
 clear hx3 hv3 hx4 hv4
 have hn4 : (0 : Int) < (n4 : Int) := by
  have a := Hv4.out.2
  have e := Hk.out
  rcases Nat.eq_zero_or_pos n4 with h | h
  . have := hs4.len
    rw [h] at this
    rw [List.eq_nil_of_length_eq_zero this, zD6] at a
    omega
  . omega
 have k0 := b0.c0
 have k1 := b1.c0
 have k2 := b1.c1
 have l0 := b0.lt
 have l1 := b1.lt
 go_wp2_with fail
 have hn39 : n3 <= 1000000 := by
  have a := zE0 Hv3.out.1 (n := n) (by
   rw [Hv3.out.2]
   have := zD hs.ok
   rw [Hlen.out.1] at this
   exact Nat.lt_of_le_of_lt (Nat.div_le_self _ _) this)
  have := hs3.len
  have := Hg.out.1.1
  have := Hlen.out.1
  omega
 have hf := zB5 w3 (.cells #[.int .u32 1] 64)
 have hs3' := hs3.on hf
 have hone := sl_one w3
 refine (zM5 _ _ _ _ _ _ _ _ _ hs3' hone hn39 (by omega)).mono ?_
 rintro e w4 ⟨A5, n5, c5, xs5, rfl, hs5, hx5, hv5, hb4⟩
 clear k0 k1 k2 l0 l1
 have hbn := zA hf hf.size hb4
 clear hf hs3' hone hb4
 have hsz : r <= w3.heap.size := Nat.le_of_lt b0.lt
 replace b0 := b0.below hbn b0.lt
 replace b1 := b1.below hbn b1.lt
 replace b2 := b2.below hbn b2.lt
 replace b3 := b3.below hbn b3.lt
 replace hs := hs.on hbn
 replace hs' := hs'.on hbn
 replace hs4 := hs4.on hbn
 replace HB := hI (show Below r w w4 from zA HB.out hsz hbn)
 clear hbn hsz
 have Hv5 := hI (And.intro hx5 hv5)
 clear hx5 hv5
 have k0 := b0.c0
 have k1 := b1.c0
 have k2 := b1.c1
 have l0 := b0.lt
 have l1 := b1.lt
 go_wp2_with fail
 refine (zG9 _ _ _ _ _ _ _ _ _ hs' hs4 Hv4.out.1 (by rw [Hv4.out.2]; exact Nat.le_of_lt (Nat.mod_lt _ Hpos.out))).mono ?_
 rintro e w5 ⟨A6, n6, c6, xs6, rfl, hs6, hx6, hv6, hb5⟩
 clear k0 k1 k2 l0 l1
 have hsz : r <= w4.heap.size := Nat.le_of_lt b0.lt
 replace b0 := b0.below hb5 b0.lt
 replace b1 := b1.below hb5 b1.lt
 replace b2 := b2.below hb5 b2.lt
 replace b3 := b3.below hb5 b3.lt
 replace hs := hs.on hb5
 replace hs' := hs'.on hb5
 replace hs5 := hs5.on hb5
 replace HB := hI (show Below r w w5 from zA HB.out hsz hb5)
 clear hb5 hsz
 have Hv6 := hI (And.intro hx6 hv6)
 clear hx6 hv6
 have k0 := b0.c0
 have k1 := b1.c0
 have k2 := b1.c1
 have l0 := b0.lt
 have l1 := b1.lt
 go_wp2_with fail
 have C := zD8 true _ _ _ xs5 _ hs5 Hv5.out.1
 have hfq : fitZ (sg true (val xs5)) = zq /\ fitE (sg true (val xs5)) = 0 := by
  rw [Hv5.out.2, Hv3.out.2, show val [1] = 1 by simp [val]]
  have := HZ.out.1
  rw [this]
  exact zB1 HZ.out.2.2.1
 rw [hfq.1, hfq.2] at C
 clear hfq
 refine C.mono ?_
 clear C
 rintro e w8 ⟨A8, n8, c8, xs8, rfl, hs8, hx8, hv8, hb8⟩
 clear k0 k1 k2 l0 l1
 have hsz : r <= w5.heap.size := Nat.le_of_lt b0.lt
 replace b0 := b0.below hb8 b0.lt
 replace b1 := b1.below hb8 b1.lt
 replace b2 := b2.below hb8 b2.lt
 replace b3 := b3.below hb8 b3.lt
 replace hs6 := hs6.on hb8
 replace HB := hI (show Below r w w8 from zA HB.out hsz hb8)
 clear hb8 hsz
 have H8 := hI (And.intro hx8 hv8)
 clear hx8 hv8
 have k1 := b1.c0
 have l1 := b1.lt
 go_wp2_with fail
 clear k1 l1
 generalize hW : World.alloc w8 _ = V8
 have hbn : Below w8.heap.size w8 V8 := by rw [<- hW]; exact zB5 _ _
 have x9 : Bx V8 w8.heap.size (decide (zq < 0)) A8 n8 c8 := by rw [<- hW]; exact Bx.new _ _ _ _ _
 have G9 := hI (And.intro b0.lt (And.intro b1.lt (And.intro b2.lt b3.lt)))
 clear hW
 have hsz : r <= w8.heap.size := Nat.le_of_lt b0.lt
 replace b0 := b0.below hbn b0.lt
 replace b1 := b1.below hbn b1.lt
 replace b2 := b2.below hbn b2.lt
 replace b3 := b3.below hbn b3.lt
 replace hs8 := hs8.on hbn
 replace hs6 := hs6.on hbn
 replace HB := hI (show Below r w V8 from zA HB.out hsz hbn)
 clear hbn hsz
 have C := zD8 true _ _ _ xs6 _ hs6 Hv6.out.1
 have hfr : fitZ (sg true (val xs6)) = zr /\ fitE (sg true (val xs6)) = 0 := by
  rw [Hv6.out.2, Hv4.out.2]
  have := HZ.out.2.1
  rw [this]
  exact zB1 HZ.out.2.2.2
 rw [hfr.1, hfr.2] at C
 clear hfr
 refine C.mono ?_
 clear C
 rintro e w9 ⟨A9, n9, c9, xs9, rfl, hs9, hx9, hv9, hb9⟩
 replace x9 := x9.below hb9 x9.lt
 have hsz : r <= V8.heap.size := Nat.le_of_lt b0.lt
 replace b0 := b0.below hb9 b0.lt
 replace b1 := b1.below hb9 b1.lt
 replace b2 := b2.below hb9 b2.lt
 replace b3 := b3.below hb9 b3.lt
 replace hs8 := hs8.on hb9
 replace HB := hI (show Below r w w9 from zA HB.out hsz hb9)
 clear hb9 hsz
 have H9 := hI (And.intro hx9 hv9)
 clear hx9 hv9
 go_wp2_with fail
 generalize hW : World.alloc w9 _ = V9
 have hbn : Below w9.heap.size w9 V9 := by rw [<- hW]; exact zB5 _ _
 have x11 : Bx V9 w9.heap.size (decide (zr < 0)) A9 n9 c9 := by rw [<- hW]; exact Bx.new _ _ _ _ _
 have G11 := hI (And.intro x9.lt (And.intro b2.lt b3.lt))
 clear hW
 replace x9 := x9.below hbn x9.lt
 have hsz : r <= w9.heap.size := Nat.le_of_lt b0.lt
 replace b0 := b0.below hbn b0.lt
 replace b1 := b1.below hbn b1.lt
 replace b2 := b2.below hbn b2.lt
 replace b3 := b3.below hbn b3.lt
 replace hs8 := hs8.on hbn
 replace hs9 := hs9.on hbn
 replace HB := hI (show Below r w V9 from zA HB.out hsz hbn)
 clear hbn hsz
 generalize w8.heap.size = p at *
 generalize w9.heap.size = q at *
 have g1 := G9.out
 have g2 := G11.out
 have HW := hI (And.intro b2 b3)
 have k0 := x9.c0
 have k1 := x9.c1
 have k2 := x11.c0
 have k3 := x11.c1
 have k4 := b2.c0
 have k5 := b2.c1
 have k6 := b2.f 0
 have k7 := b2.f 1
 have k8 := b3.c0
 have k9 := b3.c1
 have k10 := b3.f 0
 have k11 := b3.f 1
 have e1 : p ≠ r + 1 + 1 := by omega
 have e2 : p ≠ r + 1 + 1 + 1 := by omega
 have e3 : q ≠ r + 1 + 1 := by omega
 have e4 : q ≠ r + 1 + 1 + 1 := by omega
 have e5 := e1.symm
 have e6 := e2.symm
 have e7 := e3.symm
 have e8 := e4.symm
 clear g1 g2
 go_region
 all_goals go_wp2
 refine bodyPost_ret (v := .tuple #[.agg #[.bool (decide (zq < 0)), .slice A8 n8 c8], .agg #[.bool (decide (zr < 0)), .slice A9 n9 c9], .int .i64 0]) (by simp [results, Tryz.results48, go_sem, k4, k5, k8, k9]) rfl
  ⟨A8, n8, c8, xs8, A9, n9, c9, xs9, rfl, (hs8.ret2 HW.out.1 HW.out.2 (by omega) _ _ _ _).drew, H8.out.1, H8.out.2, (hs9.ret2 HW.out.1 HW.out.2 (by omega) _ _ _ _).drew, H9.out.1, H9.out.2, by rw [HR.out]; exact (zA1 (zA1 HB.out (show r <= r + 1 + 1 by omega) _ _) (show r <= r + 1 + 1 + 1 by omega) _ _).drew⟩
theorem rdivMod_tf1 (A A' : Option Addr) (n c n' c' : Nat) (xs ys : List Nat) (w : World) (h : Sl w w.heap.size A n c xs) (h' : Sl w w.heap.size A' n' c' ys)
 (hv : vld true xs = true) (hv' : vld false ys = true) (h0 : ys ≠ []) (hk : 0 < val xs % val ys) (zq zr : Int) (hzq : sg true (val xs / val ys + 1 : Nat) = zq) (hzr : sg false (val ys - val xs % val ys : Nat) = zr) (bq : zq.natAbs < BIG) (br : zr.natAbs < BIG) :
 Calls Tryz.prog 48 #[.agg #[.bool true, .slice A n c], .agg #[.bool false, .slice A' n' c']] w (zF2 zq zr 0 w) := by
 have Hg := hI (And.intro (zA2 hv) (zA2 hv'))
 have hn0 : 0 < n' := by
  have := h'.len
  rcases Nat.eq_zero_or_pos n' with e | e
  . rw [e] at this; exact absurd (List.eq_nil_of_length_eq_zero this) h0
  . exact e
 have Hpos := hI (zB4 Hg.out.2.2.1 h0)
 have HZ := hI (And.intro hzq (And.intro hzr (And.intro bq br)))
 have Hlen := hI (And.intro h.len h'.len)
 clear h0 hzq hzr bq br
 have Hk := hI hk
 clear hk
 have i4 : ((n' : Int) == 0) = false := by rw [beq_eq_false_iff_ne]; omega
 go_enter Tryz.func48, Tryz.ntmps48
 go_wp2_with fail
 generalize hW : World.alloc (World.alloc (World.alloc (World.alloc w _) _) _) _ = W
 obtain ⟨hb, hz, b0, b1, b2, b3⟩ := zD1 true false A A' n c n' c' w W hW
 have hs := h.on hb
 have hs' := h'.on hb
 clear hW h h'
 generalize hr : w.heap.size = r at *
 have HB := hI hb
 have HR := hI hr
 clear hb hr
 refine (zA3 _ _ _ _ _ xs _ hs (Nat.le_refl _)).mono ?_
 rintro e w1 ⟨rfl, hb1⟩
 have hsz : r <= W.heap.size := Nat.le_of_lt b0.lt
 replace b0 := b0.below hb1 b0.lt
 replace b1 := b1.below hb1 b1.lt
 replace b2 := b2.below hb1 b2.lt
 replace b3 := b3.below hb1 b3.lt
 replace hs := hs.on hb1
 replace hs' := hs'.on hb1
 replace HB := hI (show Below r w w1 from zA HB.out hsz hb1)
 clear hb1 hsz
 have q0 := b1.c0
 have q1 := b1.c1
 go_wp2_with fail
 refine (zA3 _ _ _ _ _ ys _ hs' (Nat.le_refl _)).mono ?_
 rintro e w2 ⟨rfl, hb2⟩
 clear q0 q1
 have hsz : r <= w1.heap.size := Nat.le_of_lt b0.lt
 replace b0 := b0.below hb2 b0.lt
 replace b1 := b1.below hb2 b1.lt
 replace b2 := b2.below hb2 b2.lt
 replace b3 := b3.below hb2 b3.lt
 replace hs := hs.on hb2
 replace hs' := hs'.on hb2
 replace HB := hI (show Below r w w2 from zA HB.out hsz hb2)
 clear hb2 hsz
 have q0 := b0.c1
 have q1 := b1.c1
 go_wp2_with fail
 refine (zH3 _ _ _ _ _ _ xs ys _ hs hs' Hg.out.1.2.1 Hg.out.2.2.1 (by have := Hg.out.1.1; have := Hlen.out.1; omega) (by have := Hg.out.2.1; have := Hlen.out.2; omega) Hpos.out).mono ?_
 rintro e w3 ⟨A3, n3, c3, xs3, A4, n4, c4, xs4, rfl, hs3, hx3, hv3, hs4, hx4, hv4, hb3⟩
 clear q0 q1
 have hsz : r <= w2.heap.size := Nat.le_of_lt b0.lt
 replace b0 := b0.below hb3 b0.lt
 replace b1 := b1.below hb3 b1.lt
 replace b2 := b2.below hb3 b2.lt
 replace b3 := b3.below hb3 b3.lt
 replace hs := hs.on hb3
 replace hs' := hs'.on hb3
 replace HB := hI (show Below r w w3 from zA HB.out hsz hb3)
 clear hb3 hsz
 have Hv3 := hI (And.intro hx3 hv3)
 have Hv4 := hI (And.intro hx4 hv4)
 clear hx3 hv3 hx4 hv4
 have hn4 : (0 : Int) < (n4 : Int) := by
  have a := Hv4.out.2
  have e := Hk.out
  rcases Nat.eq_zero_or_pos n4 with h | h
  . have := hs4.len
    rw [h] at this
    rw [List.eq_nil_of_length_eq_zero this, zD6] at a
    omega
  . omega
 have k0 := b0.c0
 have k1 := b1.c0
 have k2 := b1.c1
 have l0 := b0.lt
 have l1 := b1.lt
 go_wp2_with fail
 have hn39 : n3 <= 1000000 := by
  have a := zE0 Hv3.out.1 (n := n) (by
   rw [Hv3.out.2]
   have := zD hs.ok
   rw [Hlen.out.1] at this
   exact Nat.lt_of_le_of_lt (Nat.div_le_self _ _) this)
  have := hs3.len
  have := Hg.out.1.1
  have := Hlen.out.1
  omega
 have hf := zB5 w3 (.cells #[.int .u32 1] 64)
 have hs3' := hs3.on hf
 have hone := sl_one w3
 refine (zM5 _ _ _ _ _ _ _ _ _ hs3' hone hn39 (by omega)).mono ?_
 rintro e w4 ⟨A5, n5, c5, xs5, rfl, hs5, hx5, hv5, hb4⟩
 clear k0 k1 k2 l0 l1
 have hbn := zA hf hf.size hb4
 clear hf hs3' hone hb4
 have hsz : r <= w3.heap.size := Nat.le_of_lt b0.lt
 replace b0 := b0.below hbn b0.lt
 replace b1 := b1.below hbn b1.lt
 replace b2 := b2.below hbn b2.lt
 replace b3 := b3.below hbn b3.lt
 replace hs := hs.on hbn
 replace hs' := hs'.on hbn
 replace hs4 := hs4.on hbn
 replace HB := hI (show Below r w w4 from zA HB.out hsz hbn)
 clear hbn hsz
 have Hv5 := hI (And.intro hx5 hv5)
 clear hx5 hv5
 have k0 := b0.c0
 have k1 := b1.c0
 have k2 := b1.c1
 have l0 := b0.lt
 have l1 := b1.lt
 go_wp2_with fail
 refine (zG9 _ _ _ _ _ _ _ _ _ hs' hs4 Hv4.out.1 (by rw [Hv4.out.2]; exact Nat.le_of_lt (Nat.mod_lt _ Hpos.out))).mono ?_
 rintro e w5 ⟨A6, n6, c6, xs6, rfl, hs6, hx6, hv6, hb5⟩
 clear k0 k1 k2 l0 l1
 have hsz : r <= w4.heap.size := Nat.le_of_lt b0.lt
 replace b0 := b0.below hb5 b0.lt
 replace b1 := b1.below hb5 b1.lt
 replace b2 := b2.below hb5 b2.lt
 replace b3 := b3.below hb5 b3.lt
 replace hs := hs.on hb5
 replace hs' := hs'.on hb5
 replace hs5 := hs5.on hb5
 replace HB := hI (show Below r w w5 from zA HB.out hsz hb5)
 clear hb5 hsz
 have Hv6 := hI (And.intro hx6 hv6)
 clear hx6 hv6
 have k0 := b0.c0
 have k1 := b1.c0
 have k2 := b1.c1
 have l0 := b0.lt
 have l1 := b1.lt
 go_wp2_with fail
 have C := zD8 true _ _ _ xs5 _ hs5 Hv5.out.1
 have hfq : fitZ (sg true (val xs5)) = zq /\ fitE (sg true (val xs5)) = 0 := by
  rw [Hv5.out.2, Hv3.out.2, show val [1] = 1 by simp [val]]
  have := HZ.out.1
  rw [this]
  exact zB1 HZ.out.2.2.1
 rw [hfq.1, hfq.2] at C
 clear hfq
 refine C.mono ?_
 clear C
 rintro e w8 ⟨A8, n8, c8, xs8, rfl, hs8, hx8, hv8, hb8⟩
 clear k0 k1 k2 l0 l1
 have hsz : r <= w5.heap.size := Nat.le_of_lt b0.lt
 replace b0 := b0.below hb8 b0.lt
 replace b1 := b1.below hb8 b1.lt
 replace b2 := b2.below hb8 b2.lt
 replace b3 := b3.below hb8 b3.lt
 replace hs6 := hs6.on hb8
 replace HB := hI (show Below r w w8 from zA HB.out hsz hb8)
 clear hb8 hsz
 have H8 := hI (And.intro hx8 hv8)
 clear hx8 hv8
 have k1 := b1.c0
 have l1 := b1.lt
 go_wp2_with fail
 clear k1 l1
 generalize hW : World.alloc w8 _ = V8
 have hbn : Below w8.heap.size w8 V8 := by rw [<- hW]; exact zB5 _ _
 have x9 : Bx V8 w8.heap.size (decide (zq < 0)) A8 n8 c8 := by rw [<- hW]; exact Bx.new _ _ _ _ _
 have G9 := hI (And.intro b0.lt (And.intro b1.lt (And.intro b2.lt b3.lt)))
 clear hW
 have hsz : r <= w8.heap.size := Nat.le_of_lt b0.lt
 replace b0 := b0.below hbn b0.lt
 replace b1 := b1.below hbn b1.lt
 replace b2 := b2.below hbn b2.lt
 replace b3 := b3.below hbn b3.lt
 replace hs8 := hs8.on hbn
 replace hs6 := hs6.on hbn
 replace HB := hI (show Below r w V8 from zA HB.out hsz hbn)
 clear hbn hsz
 have C := zD8 false _ _ _ xs6 _ hs6 Hv6.out.1
 have hfr : fitZ (sg false (val xs6)) = zr /\ fitE (sg false (val xs6)) = 0 := by
  rw [Hv6.out.2, Hv4.out.2]
  have := HZ.out.2.1
  rw [this]
  exact zB1 HZ.out.2.2.2
 rw [hfr.1, hfr.2] at C
 clear hfr
 refine C.mono ?_
 clear C
 rintro e w9 ⟨A9, n9, c9, xs9, rfl, hs9, hx9, hv9, hb9⟩
 replace x9 := x9.below hb9 x9.lt
 have hsz : r <= V8.heap.size := Nat.le_of_lt b0.lt
 replace b0 := b0.below hb9 b0.lt
 replace b1 := b1.below hb9 b1.lt
 replace b2 := b2.below hb9 b2.lt
 replace b3 := b3.below hb9 b3.lt
 replace hs8 := hs8.on hb9
 replace HB := hI (show Below r w w9 from zA HB.out hsz hb9)
 clear hb9 hsz
 have H9 := hI (And.intro hx9 hv9)
 clear hx9 hv9
 go_wp2_with fail
 generalize hW : World.alloc w9 _ = V9
 have hbn : Below w9.heap.size w9 V9 := by rw [<- hW]; exact zB5 _ _
 have x11 : Bx V9 w9.heap.size (decide (zr < 0)) A9 n9 c9 := by rw [<- hW]; exact Bx.new _ _ _ _ _
 have G11 := hI (And.intro x9.lt (And.intro b2.lt b3.lt))
 clear hW
 replace x9 := x9.below hbn x9.lt
 have hsz : r <= w9.heap.size := Nat.le_of_lt b0.lt
 replace b0 := b0.below hbn b0.lt
 replace b1 := b1.below hbn b1.lt
 replace b2 := b2.below hbn b2.lt
 replace b3 := b3.below hbn b3.lt
 replace hs8 := hs8.on hbn
 replace hs9 := hs9.on hbn
 replace HB := hI (show Below r w V9 from zA HB.out hsz hbn)
 clear hbn hsz
 generalize w8.heap.size = p at *
 generalize w9.heap.size = q at *
 have g1 := G9.out
 have g2 := G11.out
 have HW := hI (And.intro b2 b3)
 have k0 := x9.c0
 have k1 := x9.c1
 have k2 := x11.c0
 have k3 := x11.c1
 have k4 := b2.c0
 have k5 := b2.c1
 have k6 := b2.f 0
 have k7 := b2.f 1
 have k8 := b3.c0
 have k9 := b3.c1
 have k10 := b3.f 0
 have k11 := b3.f 1
 have e1 : p ≠ r + 1 + 1 := by omega
 have e2 : p ≠ r + 1 + 1 + 1 := by omega
 have e3 : q ≠ r + 1 + 1 := by omega
 have e4 : q ≠ r + 1 + 1 + 1 := by omega
 have e5 := e1.symm
 have e6 := e2.symm
 have e7 := e3.symm
 have e8 := e4.symm
 clear g1 g2
 go_region
 all_goals go_wp2
 refine bodyPost_ret (v := .tuple #[.agg #[.bool (decide (zq < 0)), .slice A8 n8 c8], .agg #[.bool (decide (zr < 0)), .slice A9 n9 c9], .int .i64 0]) (by simp [results, Tryz.results48, go_sem, k4, k5, k8, k9]) rfl
  ⟨A8, n8, c8, xs8, A9, n9, c9, xs9, rfl, (hs8.ret2 HW.out.1 HW.out.2 (by omega) _ _ _ _).drew, H8.out.1, H8.out.2, (hs9.ret2 HW.out.1 HW.out.2 (by omega) _ _ _ _).drew, H9.out.1, H9.out.2, by rw [HR.out]; exact (zA1 (zA1 HB.out (show r <= r + 1 + 1 by omega) _ _) (show r <= r + 1 + 1 + 1 by omega) _ _).drew⟩
theorem rdivMod_good (neg neg' : Bool) (A A' : Option Addr) (n c n' c' : Nat) (xs ys : List Nat) (w : World) (h : Sl w w.heap.size A n c xs) (h' : Sl w w.heap.size A' n' c' ys)
 (hv : vld neg xs = true) (hv' : vld neg' ys = true) (h0 : ys ≠ []) :
 Calls Tryz.prog 48 #[.agg #[.bool neg, .slice A n c], .agg #[.bool neg', .slice A' n' c']] w (zF2 (dq neg neg' (val xs) (val ys)) (dr neg neg' (val xs) (val ys)) 0 w) := by
 have v := zA2 hv
 have v' := zA2 hv'
 have bx : val xs < BIG := (zC3 h.ok v.2.1).2 v.1
 have by' : val ys < BIG := (zC3 h'.ok v'.2.1).2 v'.1
 have s := dq_spec neg neg' (val xs) (val ys) (zB4 v'.2.1 h0)
 have bq := Nat.lt_of_le_of_lt s.2.2.2 bx
 have br := Nat.lt_trans s.2.1 by'
 cases neg <;> cases neg'
 . exact rdivMod_ff A A' n c n' c' xs ys w h h' hv hv' h0 _ _ (by rw [dq, if_neg (by simp)]; rfl) (by rw [dr, if_neg (by simp)]) bq br
 . rcases Nat.eq_zero_or_pos (val xs % val ys) with hk | hk
   . exact rdivMod_ft A A' n c n' c' xs ys w h h' hv hv' h0 hk _ _ (by rw [dq, if_neg (by omega)]; rfl) (by rw [dr, if_neg (by omega)]) bq br
   . exact rdivMod_ft1 A A' n c n' c' xs ys w h h' hv hv' h0 hk _ _ (by rw [dq, if_pos ⟨rfl, hk⟩]) (by rw [dr, if_pos ⟨rfl, hk⟩]) bq br
 . rcases Nat.eq_zero_or_pos (val xs % val ys) with hk | hk
   . exact rdivMod_tf A A' n c n' c' xs ys w h h' hv hv' h0 hk _ _ (by rw [dq, if_neg (by omega)]; rfl) (by rw [dr, if_neg (by omega)]) bq br
   . exact rdivMod_tf1 A A' n c n' c' xs ys w h h' hv hv' h0 hk _ _ (by rw [dq, if_pos ⟨rfl, hk⟩]) (by rw [dr, if_pos ⟨rfl, hk⟩]) bq br
 . exact rdivMod_tt A A' n c n' c' xs ys w h h' hv hv' h0 _ _ (by rw [dq, if_neg (by simp)]; rfl) (by rw [dr, if_neg (by simp)]) bq br
theorem rdivMod_ov {neg neg' : Bool} {A A' : Option Addr} {n c n' c' : Nat} {xs ys : List Nat} {w : World} (h : Sl w w.heap.size A n c xs) (h' : Sl w w.heap.size A' n' c' ys) :
 Calls Tryz.prog 48 #[.agg #[.bool neg, .slice A n c], .agg #[.bool neg', .slice A' n' c']] w (zF2 (dvQ (ov neg xs) (ov neg' ys)) (dvR (ov neg xs) (ov neg' ys)) (dvE (ov neg xs) (ov neg' ys)) w) := by
 rcases hv : vld neg xs with _ | _
 . rw [zG hv]
   exact rdivMod_bad1 neg neg' A A' n c n' c' xs ys w h h' hv
 . rcases hv' : vld neg' ys with _ | _
   . rw [zG hv', zE4 hv]
     exact rdivMod_bad2 neg neg' A A' n c n' c' xs ys w h h' hv hv'
   . have v' := zA2 hv'
     rw [zE4 hv, zE4 hv']
     by_cases h0 : ys = []
     . have e : sg neg' (val ys) = 0 := by rw [h0, v'.2.2 h0, zB7, zD6]; rfl
       rw [zH7, zL8, zN5]
       rw [if_pos e, if_pos e, if_pos e]
       exact rdivMod_zero neg neg' A A' n c n' c' xs ys w h h' hv hv' h0
     . have hp := zB4 v'.2.1 h0
       have e : ¬ sg neg' (val ys) = 0 := by
        intro e
        have := congrArg Int.natAbs e
        rw [zD3] at this
        simp at this; omega
       rw [zH7, zL8, zN5]
       rw [if_neg e, if_neg e, if_neg e]
       have hd := rdivMod_good neg neg' A A' n c n' c' xs ys w h h' hv hv' h0
       unfold fq fr
       rw [zS9 hv, zS9 hv', zD3, zD3]
       exact hd
end Go.Proofs.YtphinlongdoedaaGreat
