/-
  The walk of IntegerDivision, for two valid integers, the second not 0.
-/
import Derived.Test.YtalgcppogjpilaaDivZ
namespace Go.Proofs.Ytalgcppogjpilaa
open Go.RowKit

theorem cmp_ov {neg neg' : Bool} {A A' : Option Addr} {n c n' c' : Nat} {xs ys : List Nat} {w : World} (h : Sl w w.heap.size A n c xs) (h' : Sl w w.heap.size A' n' c' ys) {x y u : Int} (hx : ov neg xs = some x) (hy : ov neg' ys = some y) (hu : Int.sign (x - y) = u) :
    Calls Try.prog 35 #[.agg #[.bool neg, .slice A n c], .agg #[.bool neg', .slice A' n' c']] w (RetC u 0 w) := by
  rcases hv : vld neg xs with _ | _
  · rw [ov_none hv] at hx; cases hx
  · rcases hv' : vld neg' ys with _ | _
    · rw [ov_none hv'] at hy; cases hy
    · rw [ov_some hv] at hx
      rw [ov_some hv'] at hy
      injection hx with hx
      injection hy with hy
      exact cmp_nz h h' hv hv' u (by rw [hx, hy]; exact hu)
theorem ov_parts {neg : Bool} {xs : List Nat} {a : Int} (h : ov neg xs = some a) : Nz xs ∧ val xs = a.natAbs ∧ vld neg xs = true := by
  rcases hv : vld neg xs with _ | _
  · rw [ov_none hv] at h; cases h
  · rw [ov_some hv] at h
    injection h with h
    exact ⟨(vld_true hv).2.1, by rw [← h, sg_abs], rfl⟩
theorem ov_sign {neg : Bool} {xs : List Nat} {a : Int} (h : ov neg xs = some a) : decide (a < 0) = neg := by
  have hv := (ov_parts h).2.2
  rw [ov_some hv] at h
  injection h with h
  rw [← h]; exact sg_sign hv
theorem ov_mag {xs : List Nat} {k : Nat} (hx : Ok xs) (nx : Nz xs) (e : val xs = k) (hz : k < BIG) : ov false xs = some (k : Int) := by
  rw [ov_some (vld_of hx nx (by rw [e]; exact hz) (fun h => by cases h)), sg_false, e]

set_option maxRecDepth 20000 in
set_option maxHeartbeats 4000000 in
theorem division_walk (neg neg' : Bool) (A A' : Option Addr) (n c n' c' : Nat) (xs ys : List Nat) (w : World) (h : Sl w w.heap.size A n c xs) (h' : Sl w w.heap.size A' n' c' ys) (va vb zq zr o vc vd z5 e5 z6 e6 : Int)
    (Oa : Hid (ov neg xs = some va)) (Ob : Hid (ov neg' ys = some vb)) (hv : vld neg xs = true) (hv' : vld neg' ys = true) (hn1 : ((n' : Int) == 0) = false)
    (ZQ : Hid (dvQ (some va) (some vb) = zq)) (ZR : Hid (dvR (some va) (some vb) = zr)) (ER : Hid (dvE (some va) (some vb) = 0)) (BQ : Hid (zq.natAbs < BIG)) (BR : Hid (zr.natAbs < BIG))
    (KO : Hid (∀ w : World, Calls Try.prog 18 #[.int .i64 0] w (RetI o w))) (BO : Hid (o.natAbs < BIG)) (HC : Hid (Int.sign (zr - o) = vc)) (HD : Hid (Int.sign (vb - o) = vd)) (HL : Hid (Int.sign ((zr.natAbs : Int) - (vb.natAbs : Int)) = -1)) (Hcd : Hid (vc = 0 ∨ vc = vd))
    (Z5 : Hid (o2Z (· * ·) (some zq) (some vb) = z5)) (E5 : Hid (o2E (· * ·) (some zq) (some vb) = e5)) (B5 : Hid (z5.natAbs < BIG)) (Z6 : Hid (o2Z (· + ·) (some z5) (some zr) = z6)) (E6 : Hid (o2E (· + ·) (some z5) (some zr) = e6))
    (Q : Hid ((e5 != 0) = false → (e6 != 0) = false → z6 = va)) :
    Calls Try.prog 12 #[.agg #[.bool neg, .slice A n c], .agg #[.bool neg', .slice A' n' c']] w (fun e w' => e = .returned (.bool true) ∧ Below w.heap.size w w') := by
  go_enter Try.func12, Try.ntmps12
  go_wp2_with fail
  generalize hW : World.alloc (World.alloc w _) _ = V
  obtain ⟨hb, a, b⟩ := two_boxes neg neg' A A' n c n' c' xs ys w V h h' hW
  have HB := Lib.hid hb
  clear hW hb h h'
  generalize hr0 : w.heap.size = r0 at *
  have HR := Lib.hid hr0
  clear hr0
  have ka0 := a.bx.c0
  have ka1 := a.bx.c1
  have kb0 := b.bx.c0
  have kb1 := b.bx.c1
  have la := a.bx.lt
  have lb := b.bx.lt
  go_wp2_with fail
  clear ka0 ka1 la kb0 kb1 lb
  have C := divMod_ov (neg := neg) (neg' := neg') a.sl b.sl
  rw [Oa.out, Ob.out, ZQ.out, ZR.out, ER.out] at C
  refine C.mono ?_
  clear C
  rintro e w1 ⟨A1, n1, c1, xs1, A1b, n1b, c1b, xs1b, rfl, hs1, hx1, hv1, hs1b, hx1b, hv1b, hbn⟩
  replace a := a.on hbn
  replace b := b.on hbn
  replace HB := Lib.hid (show Below r0 w w1 from below_chain HB.out (by have := HR.out; have := HB.out.size; omega) hbn)
  clear hbn
  have F1 := Lib.hid (And.intro hx1 hv1)
  have F1b := Lib.hid (And.intro hx1b hv1b)
  clear hx1 hv1 hx1b hv1b
  have ka0 := a.bx.c0
  have ka1 := a.bx.c1
  have la := a.bx.lt
  go_wp2_with fail
  clear ka0 ka1 la
  generalize hW : World.alloc (World.alloc w1 _) _ = V1
  obtain ⟨hb2, q, r⟩ := two_boxes (decide (zq < 0)) (decide (zr < 0)) A1 A1b n1 c1 n1b c1b xs1 xs1b w1 V1 hs1 hs1b hW
  replace a := a.on hb2
  replace b := b.on hb2
  replace HB := Lib.hid (show Below r0 w V1 from below_chain HB.out (by have := HR.out; have := HB.out.size; omega) hb2)
  clear hW hs1 hs1b hb2
  generalize w1.heap.size = r1 at *
  refine (rvalid_any _ _ _ _ _ xs _ a.sl (Nat.le_refl _)).mono ?_
  rintro e w2 ⟨rfl, hbn⟩
  replace a := a.on hbn
  replace b := b.on hbn
  replace q := q.on hbn
  replace r := r.on hbn
  replace HB := Lib.hid (show Below r0 w w2 from below_chain HB.out (by have := HR.out; have := HB.out.size; omega) hbn)
  clear hbn
  rw [hv]
  have kb0 := b.bx.c0
  have kb1 := b.bx.c1
  have lb := b.bx.lt
  go_wp2_with fail
  clear kb0 kb1 lb
  refine (rvalid_any _ _ _ _ _ ys _ b.sl (Nat.le_refl _)).mono ?_
  rintro e w3 ⟨rfl, hbn⟩
  replace a := a.on hbn
  replace b := b.on hbn
  replace q := q.on hbn
  replace r := r.on hbn
  replace HB := Lib.hid (show Below r0 w w3 from below_chain HB.out (by have := HR.out; have := HB.out.size; omega) hbn)
  clear hbn
  rw [hv']
  have kb0 := b.bx.c0
  have kb1 := b.bx.c1
  have lb := b.bx.lt
  go_wp2_with fail
  clear kb0 kb1 lb
  refine (KO.out _).mono ?_
  rintro e w4 ⟨A4, n4, c4, xs4, rfl, hs4, hx4, hv4, hbn⟩
  replace a := a.on hbn
  replace b := b.on hbn
  replace q := q.on hbn
  replace r := r.on hbn
  replace HB := Lib.hid (show Below r0 w w4 from below_chain HB.out (by have := HR.out; have := HB.out.size; omega) hbn)
  clear hbn
  have F4 := Lib.hid (And.intro hx4 hv4)
  clear hx4 hv4
  have kr0 := r.bx.c0
  have kr1 := r.bx.c1
  have lr := r.bx.lt
  go_wp2_with fail
  clear kr0 kr1 lr
  generalize hW : World.alloc w4 _ = V4
  have t : Ba V4 w4.heap.size (decide (o < 0)) A4 n4 c4 xs4 := by rw [← hW]; exact ⟨Bx.new _ _ _ _ _, hs4.on (below_new _ _)⟩
  replace a : Ba V4 (r0) (neg) A n c xs := by rw [← hW]; exact a.on (below_new _ _)
  replace b : Ba V4 (r0 + 1) (neg') A' n' c' ys := by rw [← hW]; exact b.on (below_new _ _)
  replace q : Ba V4 (r1) (decide (zq < 0)) A1 n1 c1 xs1 := by rw [← hW]; exact q.on (below_new _ _)
  replace r : Ba V4 (r1 + 1) (decide (zr < 0)) A1b n1b c1b xs1b := by rw [← hW]; exact r.on (below_new _ _)
  replace HB := Lib.hid (show Below r0 w V4 by rw [← hW]; exact HB.out.alloc (by have := HR.out; have := HB.out.size; omega) _)
  clear hW hs4
  generalize w4.heap.size = r4 at *
  refine (cmp_ov r.sl t.sl (ov_res r.sl.ok F1b.out.1 F1b.out.2 BR.out) (ov_res t.sl.ok F4.out.1 F4.out.2 BO.out) HC.out).mono ?_
  rintro e w5 ⟨rfl, hbn⟩
  replace a := a.on hbn
  replace b := b.on hbn
  replace q := q.on hbn
  replace r := r.on hbn
  replace t := t.on hbn
  replace HB := Lib.hid (show Below r0 w w5 from below_chain HB.out (by have := HR.out; have := HB.out.size; omega) hbn)
  clear hbn
  have kb0 := b.bx.c0
  have kb1 := b.bx.c1
  have kt0 := t.bx.c0
  have kt1 := t.bx.c1
  have lb := b.bx.lt
  have lt := t.bx.lt
  go_wp2_with fail
  clear kb0 kb1 lb kt0 kt1 lt
  refine (cmp_ov b.sl t.sl Ob.out (ov_res t.sl.ok F4.out.1 F4.out.2 BO.out) HD.out).mono ?_
  rintro e w6 ⟨rfl, hbn⟩
  replace a := a.on hbn
  replace b := b.on hbn
  replace q := q.on hbn
  replace r := r.on hbn
  replace t := t.on hbn
  replace HB := Lib.hid (show Below r0 w w6 from below_chain HB.out (by have := HR.out; have := HB.out.size; omega) hbn)
  clear hbn
  clear t
  have kr0 := r.bx.c0
  have kr1 := r.bx.c1
  have lr := r.bx.lt
  go_upto_region 10 with fail
  clear kr0 kr1 lr
  generalize hW : World.alloc w6 _ = U1
  have m1 : Ba U1 w6.heap.size false A1b n1b c1b xs1b := by rw [← hW]; exact ⟨Bx.new _ _ _ _ _, r.sl.on (below_new _ _)⟩
  replace a : Ba U1 (r0) (neg) A n c xs := by rw [← hW]; exact a.on (below_new _ _)
  replace b : Ba U1 (r0 + 1) (neg') A' n' c' ys := by rw [← hW]; exact b.on (below_new _ _)
  replace q : Ba U1 (r1) (decide (zq < 0)) A1 n1 c1 xs1 := by rw [← hW]; exact q.on (below_new _ _)
  replace r : Ba U1 (r1 + 1) (decide (zr < 0)) A1b n1b c1b xs1b := by rw [← hW]; exact r.on (below_new _ _)
  replace HB := Lib.hid (show Below r0 w U1 by rw [← hW]; exact HB.out.alloc (by have := HR.out; have := HB.out.size; omega) _)
  clear hW
  generalize w6.heap.size = q1 at *
  have kb0 := b.bx.c0
  have kb1 := b.bx.c1
  have lb := b.bx.lt
  go_upto_region 11 with fail
  clear kb0 kb1 lb
  generalize hW : World.alloc U1 _ = U2
  have m2 : Ba U2 U1.heap.size false A' n' c' ys := by rw [← hW]; exact ⟨Bx.new _ _ _ _ _, b.sl.on (below_new _ _)⟩
  replace a : Ba U2 (r0) (neg) A n c xs := by rw [← hW]; exact a.on (below_new _ _)
  replace b : Ba U2 (r0 + 1) (neg') A' n' c' ys := by rw [← hW]; exact b.on (below_new _ _)
  replace q : Ba U2 (r1) (decide (zq < 0)) A1 n1 c1 xs1 := by rw [← hW]; exact q.on (below_new _ _)
  replace r : Ba U2 (r1 + 1) (decide (zr < 0)) A1b n1b c1b xs1b := by rw [← hW]; exact r.on (below_new _ _)
  replace m1 : Ba U2 (q1) (false) A1b n1b c1b xs1b := by rw [← hW]; exact m1.on (below_new _ _)
  replace HB := Lib.hid (show Below r0 w U2 by rw [← hW]; exact HB.out.alloc (by have := HR.out; have := HB.out.size; omega) _)
  clear hW
  generalize U1.heap.size = q2 at *
  have km10 := m1.bx.c0
  have km11 := m1.bx.c1
  have km20 := m2.bx.c0
  have km21 := m2.bx.c1
  have lm1 := m1.bx.lt
  have lm2 := m2.bx.lt
  go_wp2_with fail
  clear km10 km11 lm1 km20 km21 lm2
  refine (cmp_ov m1.sl m2.sl (ov_mag m1.sl.ok F1b.out.1 F1b.out.2 BR.out) (ov_mag m2.sl.ok (ov_parts Ob.out).1 (ov_parts Ob.out).2.1 (ov_lt m2.sl.ok Ob.out)) HL.out).mono ?_
  rintro e w7 ⟨rfl, hbn⟩
  replace a := a.on hbn
  replace b := b.on hbn
  replace q := q.on hbn
  replace r := r.on hbn
  replace m1 := m1.on hbn
  replace m2 := m2.on hbn
  replace HB := Lib.hid (show Below r0 w w7 from below_chain HB.out (by have := HR.out; have := HB.out.size; omega) hbn)
  clear hbn
  clear m1 m2
  have kq0 := q.bx.c0
  have kq1 := q.bx.c1
  have kb0 := b.bx.c0
  have kb1 := b.bx.c1
  have lq := q.bx.lt
  have lb := b.bx.lt
  go_wp2_with fail
  clear kq0 kq1 lq kb0 kb1 lb
  have C := mul_ov (neg := decide (zq < 0)) (neg' := neg') q.sl b.sl
  rw [ov_res q.sl.ok F1.out.1 F1.out.2 BQ.out, Ob.out, Z5.out, E5.out] at C
  refine C.mono ?_
  clear C
  rintro e w8 ⟨A8, n8, c8, xs8, rfl, hs8, hx8, hv8, hbn⟩
  replace a := a.on hbn
  replace b := b.on hbn
  replace q := q.on hbn
  replace r := r.on hbn
  replace HB := Lib.hid (show Below r0 w w8 from below_chain HB.out (by have := HR.out; have := HB.out.size; omega) hbn)
  clear hbn
  have F8 := Lib.hid (And.intro hx8 hv8)
  clear hx8 hv8
  have kr0 := r.bx.c0
  have kr1 := r.bx.c1
  have lr := r.bx.lt
  go_wp2_with fail
  clear kr0 kr1 lr
  generalize hW : World.alloc w8 _ = V8
  have p : Ba V8 w8.heap.size (decide (z5 < 0)) A8 n8 c8 xs8 := by rw [← hW]; exact ⟨Bx.new _ _ _ _ _, hs8.on (below_new _ _)⟩
  replace a : Ba V8 (r0) (neg) A n c xs := by rw [← hW]; exact a.on (below_new _ _)
  replace b : Ba V8 (r0 + 1) (neg') A' n' c' ys := by rw [← hW]; exact b.on (below_new _ _)
  replace q : Ba V8 (r1) (decide (zq < 0)) A1 n1 c1 xs1 := by rw [← hW]; exact q.on (below_new _ _)
  replace r : Ba V8 (r1 + 1) (decide (zr < 0)) A1b n1b c1b xs1b := by rw [← hW]; exact r.on (below_new _ _)
  replace HB := Lib.hid (show Below r0 w V8 by rw [← hW]; exact HB.out.alloc (by have := HR.out; have := HB.out.size; omega) _)
  clear hW hs8
  generalize w8.heap.size = r8 at *
  have C := add_ov (neg := decide (z5 < 0)) (neg' := decide (zr < 0)) p.sl r.sl
  rw [ov_res p.sl.ok F8.out.1 F8.out.2 B5.out, ov_res r.sl.ok F1b.out.1 F1b.out.2 BR.out, Z6.out, E6.out] at C
  refine C.mono ?_
  clear C
  rintro e w9 ⟨A9, n9, c9, xs9, rfl, hs9, hx9, hv9, hbn⟩
  replace a := a.on hbn
  replace b := b.on hbn
  replace q := q.on hbn
  replace r := r.on hbn
  replace p := p.on hbn
  replace HB := Lib.hid (show Below r0 w w9 from below_chain HB.out (by have := HR.out; have := HB.out.size; omega) hbn)
  clear hbn
  have F9 := Lib.hid (And.intro hx9 hv9)
  clear hx9 hv9
  go_wp2_with fail
  generalize hW : World.alloc w9 _ = V9
  have s : Ba V9 w9.heap.size (decide (z6 < 0)) A9 n9 c9 xs9 := by rw [← hW]; exact ⟨Bx.new _ _ _ _ _, hs9.on (below_new _ _)⟩
  replace a : Ba V9 (r0) (neg) A n c xs := by rw [← hW]; exact a.on (below_new _ _)
  replace b : Ba V9 (r0 + 1) (neg') A' n' c' ys := by rw [← hW]; exact b.on (below_new _ _)
  replace q : Ba V9 (r1) (decide (zq < 0)) A1 n1 c1 xs1 := by rw [← hW]; exact q.on (below_new _ _)
  replace r : Ba V9 (r1 + 1) (decide (zr < 0)) A1b n1b c1b xs1b := by rw [← hW]; exact r.on (below_new _ _)
  replace p : Ba V9 (r8) (decide (z5 < 0)) A8 n8 c8 xs8 := by rw [← hW]; exact p.on (below_new _ _)
  replace HB := Lib.hid (show Below r0 w V9 by rw [← hW]; exact HB.out.alloc (by have := HR.out; have := HB.out.size; omega) _)
  clear hW hs9
  generalize w9.heap.size = r9 at *
  refine (works_any _).mono ?_
  rintro e w10 ⟨rfl, hbn⟩
  replace a := a.on hbn
  replace b := b.on hbn
  replace q := q.on hbn
  replace r := r.on hbn
  replace p := p.on hbn
  replace s := s.on hbn
  replace HB := Lib.hid (show Below r0 w w10 from below_chain HB.out (by have := HR.out; have := HB.out.size; omega) hbn)
  clear hbn
  have ka0 := a.bx.c0
  have ka1 := a.bx.c1
  have ks0 := s.bx.c0
  have ks1 := s.bx.c1
  rcases Hcd.out with hc | hc
  · have hc1 : (vc == 0) = true := by rw [hc]; rfl
    clear hc
    by_cases h5 : (e5 != 0) = true
    · go_wp2
      go_ret
      exact ⟨rfl, HR.out ▸ HB.out⟩
    · replace h5 : (e5 != 0) = false := by simpa using h5
      by_cases h6 : (e6 != 0) = true
      · go_wp2
        go_ret
        exact ⟨rfl, HR.out ▸ HB.out⟩
      · replace h6 : (e6 != 0) = false := by simpa using h6
        have HQ := Lib.hid (Q.out h5 h6)
        go_wp2_with fail
        refine (lsame_yes _ _ _ _ _ _ _ _ _ _ _ s.sl a.sl (by rw [HQ.out]; exact ov_sign Oa.out) (uniq s.sl.ok a.sl.ok F9.out.1 (ov_parts Oa.out).1 (by rw [F9.out.2, HQ.out, (ov_parts Oa.out).2.1]))).mono ?_
        rintro e w20 ⟨rfl, hbn⟩
        go_wp2
        go_ret
        exact ⟨rfl, HR.out ▸ below_chain HB.out (by have := HR.out; have := HB.out.size; omega) hbn⟩
  · subst hc
    have hcc : (vc == vc) = true := by simp
    by_cases hc0 : vc = 0
    · have hc1 : (vc == 0) = true := by rw [hc0]; rfl
      clear hc0
      by_cases h5 : (e5 != 0) = true
      · go_wp2
        go_ret
        exact ⟨rfl, HR.out ▸ HB.out⟩
      · replace h5 : (e5 != 0) = false := by simpa using h5
        by_cases h6 : (e6 != 0) = true
        · go_wp2
          go_ret
          exact ⟨rfl, HR.out ▸ HB.out⟩
        · replace h6 : (e6 != 0) = false := by simpa using h6
          have HQ := Lib.hid (Q.out h5 h6)
          go_wp2_with fail
          refine (lsame_yes _ _ _ _ _ _ _ _ _ _ _ s.sl a.sl (by rw [HQ.out]; exact ov_sign Oa.out) (uniq s.sl.ok a.sl.ok F9.out.1 (ov_parts Oa.out).1 (by rw [F9.out.2, HQ.out, (ov_parts Oa.out).2.1]))).mono ?_
          rintro e w20 ⟨rfl, hbn⟩
          go_wp2
          go_ret
          exact ⟨rfl, HR.out ▸ below_chain HB.out (by have := HR.out; have := HB.out.size; omega) hbn⟩
    · have hc1 : (vc == 0) = false := by rw [beq_eq_false_iff_ne]; exact hc0
      clear hc0
      by_cases h5 : (e5 != 0) = true
      · go_wp2
        go_ret
        exact ⟨rfl, HR.out ▸ HB.out⟩
      · replace h5 : (e5 != 0) = false := by simpa using h5
        by_cases h6 : (e6 != 0) = true
        · go_wp2
          go_ret
          exact ⟨rfl, HR.out ▸ HB.out⟩
        · replace h6 : (e6 != 0) = false := by simpa using h6
          have HQ := Lib.hid (Q.out h5 h6)
          go_wp2_with fail
          refine (lsame_yes _ _ _ _ _ _ _ _ _ _ _ s.sl a.sl (by rw [HQ.out]; exact ov_sign Oa.out) (uniq s.sl.ok a.sl.ok F9.out.1 (ov_parts Oa.out).1 (by rw [F9.out.2, HQ.out, (ov_parts Oa.out).2.1]))).mono ?_
          rintro e w20 ⟨rfl, hbn⟩
          go_wp2
          go_ret
          exact ⟨rfl, HR.out ▸ below_chain HB.out (by have := HR.out; have := HB.out.size; omega) hbn⟩

end Go.Proofs.Ytalgcppogjpilaa
