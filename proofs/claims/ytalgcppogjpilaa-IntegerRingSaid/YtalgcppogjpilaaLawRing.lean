/-
  IntegerRing returns true, for any three integers, valid or not.
-/
import Derived.Test.YtalgcppogjpilaaAssoc
import Derived.Test.YtalgcppogjpilaaDist
namespace Go.Proofs.Ytalgcppogjpilaa
open Go.RowKit

theorem o2_ok {f : Int → Int → Int} {o o' : Option Int} (h : (o2E f o o' != 0) = false) : ∃ a b, o = some a ∧ o' = some b ∧ o2Z f o o' = f a b := by
  rcases o with _ | a <;> rcases o' with _ | b
  · exact absurd h (by simp [o2E])
  · exact absurd h (by simp [o2E])
  · exact absurd h (by simp [o2E])
  · refine ⟨a, b, rfl, rfl, ?_⟩
    by_cases hb : (f a b).natAbs < BIG
    · exact (fit_yes hb).1
    · have e : o2E f (some a) (some b) = 2 := (fit_no hb).2
      rw [e] at h
      exact absurd h (by decide)

theorem o2_comm {f : Int → Int → Int} (hf : ∀ a b, f a b = f b a) (o o' : Option Int) : o2Z f o o' = o2Z f o' o ∧ o2E f o o' = o2E f o' o := by
  rcases o with _ | a <;> rcases o' with _ | b <;> simp only [o2Z, o2E, and_self]
  rw [hf a b]; exact ⟨rfl, rfl⟩

theorem assoc_chain {f : Int → Int → Int} (hf : ∀ a b c, f (f a b) c = f a (f b c)) {oa ob od : Option Int} (h1 : (o2E f oa ob != 0) = false) (h2 : (o2E f (some (o2Z f oa ob)) od != 0) = false) (h3 : (o2E f ob od != 0) = false)
    (h4 : (o2E f oa (some (o2Z f ob od)) != 0) = false) : o2Z f (some (o2Z f oa ob)) od = o2Z f oa (some (o2Z f ob od)) := by
  obtain ⟨a, b, rfl, rfl, e1⟩ := o2_ok h1
  obtain ⟨s, d, es, rfl, e2⟩ := o2_ok h2
  obtain ⟨b', d', eb, ed, e3⟩ := o2_ok h3
  obtain ⟨a', t, ea, et, e4⟩ := o2_ok h4
  injection es with es
  injection eb with eb
  injection ed with ed
  injection ea with ea
  injection et with et
  rw [e2, e4, ← es, ← et, e1, e3, ← ea, ← eb, ← ed]
  exact hf a b d
theorem dist_chain {g : Int → Int → Int} (hg : ∀ a b c : Int, a * g b c = g (a * b) (a * c)) {oa ob od : Option Int} (h1 : (o2E (· * ·) oa ob != 0) = false) (h2 : (o2E (· * ·) oa od != 0) = false) (h3 : (o2E g ob od != 0) = false)
    (h4 : (o2E (· * ·) oa (some (o2Z g ob od)) != 0) = false) (h5 : (o2E g (some (o2Z (· * ·) oa ob)) (some (o2Z (· * ·) oa od)) != 0) = false) :
    o2Z (· * ·) oa (some (o2Z g ob od)) = o2Z g (some (o2Z (· * ·) oa ob)) (some (o2Z (· * ·) oa od)) := by
  obtain ⟨a, b, rfl, rfl, e1⟩ := o2_ok h1
  obtain ⟨a1, d, ea1, rfl, e2⟩ := o2_ok h2
  obtain ⟨b', d', eb, ed, e3⟩ := o2_ok h3
  obtain ⟨a', t, ea, et, e4⟩ := o2_ok h4
  obtain ⟨u, v, eu, ev, e5⟩ := o2_ok h5
  injection ea1 with ea1
  injection eb with eb
  injection ed with ed
  injection ea with ea
  injection et with et
  injection eu with eu
  injection ev with ev
  rw [e4, e5, ← et, ← eu, ← ev, e1, e2, e3, ← ea, ← eb, ← ed, ← ea1]
  exact hg a b d

theorem associates_any (neg neg' neg'' : Bool) (A A' A'' : Option Addr) (n c n' c' n'' c'' : Nat) (xs ys zs : List Nat) (w : World) (h : Sl w w.heap.size A n c xs) (h' : Sl w w.heap.size A' n' c' ys) (h'' : Sl w w.heap.size A'' n'' c'' zs) :
    Calls Try.prog 48 #[.agg #[.bool neg, .slice A n c], .agg #[.bool neg', .slice A' n' c'], .agg #[.bool neg'', .slice A'' n'' c'']] w (fun e w' => e = .returned (.bool true) ∧ Below w.heap.size w w') :=
  associates_walk neg neg' neg'' A A' A'' n c n' c' n'' c'' xs ys zs w h h' h'' _ _ _ _ _ _ _ _ _ _ _ _ _ _ _ _ _ _ _ rfl rfl rfl rfl rfl (o2Z_lt _ _ _) rfl rfl rfl rfl (o2Z_lt _ _ _) rfl rfl rfl rfl (o2Z_lt _ _ _) rfl rfl rfl rfl (o2Z_lt _ _ _) rfl rfl
    (assoc_chain Int.add_assoc) (assoc_chain Int.mul_assoc)
theorem distributes_any (neg neg' neg'' : Bool) (A A' A'' : Option Addr) (n c n' c' n'' c'' : Nat) (xs ys zs : List Nat) (w : World) (h : Sl w w.heap.size A n c xs) (h' : Sl w w.heap.size A' n' c' ys) (h'' : Sl w w.heap.size A'' n'' c'' zs) :
    Calls Try.prog 49 #[.agg #[.bool neg, .slice A n c], .agg #[.bool neg', .slice A' n' c'], .agg #[.bool neg'', .slice A'' n'' c'']] w (fun e w' => e = .returned (.bool true) ∧ Below w.heap.size w w') :=
  distributes_walk neg neg' neg'' A A' A'' n c n' c' n'' c'' xs ys zs w h h' h'' _ _ _ _ _ _ _ _ _ _ _ _ _ _ _ _ _ _ _ rfl rfl rfl rfl rfl (o2Z_lt _ _ _) rfl rfl (o2Z_lt _ _ _) rfl rfl (o2Z_lt _ _ _) rfl rfl rfl rfl rfl rfl (o2Z_lt _ _ _) rfl rfl rfl rfl
    (dist_chain Int.mul_add) (dist_chain Int.mul_sub)

set_option maxRecDepth 20000 in
set_option maxHeartbeats 4000000 in
theorem ring_walk (neg neg' neg'' : Bool) (A A' A'' : Option Addr) (n c n' c' n'' c'' : Nat) (xs ys zs : List Nat) (w : World) (h : Sl w w.heap.size A n c xs) (h' : Sl w w.heap.size A' n' c' ys) (h'' : Sl w w.heap.size A'' n'' c'' zs) (oa ob : Option Int) (z e z' e' : Int)
    (Oa : Hid (ov neg xs = oa)) (Ob : Hid (ov neg' ys = ob))
    (Z1 : Hid (o2Z (· + ·) oa ob = z)) (E1 : Hid (o2E (· + ·) oa ob = e))
    (Z2 : Hid (o2Z (· + ·) ob oa = z)) (E2 : Hid (o2E (· + ·) ob oa = e))
    (Z3 : Hid (o2Z (· * ·) oa ob = z')) (E3 : Hid (o2E (· * ·) oa ob = e'))
    (Z4 : Hid (o2Z (· * ·) ob oa = z')) (E4 : Hid (o2E (· * ·) ob oa = e'))
    (K5 : Hid (∀ w : World, Sl w w.heap.size A n c xs → Sl w w.heap.size A' n' c' ys → Sl w w.heap.size A'' n'' c'' zs → Calls Try.prog 48 #[.agg #[.bool neg, .slice A n c], .agg #[.bool neg', .slice A' n' c'], .agg #[.bool neg'', .slice A'' n'' c'']] w (fun e w' => e = .returned (.bool true) ∧ Below w.heap.size w w'))) (K6 : Hid (∀ w : World, Sl w w.heap.size A n c xs → Sl w w.heap.size A' n' c' ys → Sl w w.heap.size A'' n'' c'' zs → Calls Try.prog 49 #[.agg #[.bool neg, .slice A n c], .agg #[.bool neg', .slice A' n' c'], .agg #[.bool neg'', .slice A'' n'' c'']] w (fun e w' => e = .returned (.bool true) ∧ Below w.heap.size w w'))) :
    Calls Try.prog 11 #[.agg #[.bool neg, .slice A n c], .agg #[.bool neg', .slice A' n' c'], .agg #[.bool neg'', .slice A'' n'' c'']] w (fun e w' => e = .returned (.bool true) ∧ Below w.heap.size w w') := by
  have hee : (e == e) = true := by simp
  have hff : (e' == e') = true := by simp
  go_enter Try.func11, Try.ntmps11
  go_wp2_with fail
  generalize hW : World.alloc (World.alloc (World.alloc w _) _) _ = V
  obtain ⟨hb, a, b, d⟩ := three_boxes neg neg' neg'' A A' A'' n c n' c' n'' c'' xs ys zs w V h h' h'' hW
  have HB := Lib.hid hb
  clear hW hb h h' h''
  generalize hr0 : w.heap.size = r0 at *
  have HR := Lib.hid hr0
  clear hr0
  have ka0 := a.bx.c0
  have ka1 := a.bx.c1
  have kb0 := b.bx.c0
  have kb1 := b.bx.c1
  have la := a.bx.lt
  have lb := b.bx.lt
  go_wp2_with fail
  clear ka0 ka1 la kb0 kb1 lb
  have C := add_ov (neg := neg) (neg' := neg') a.sl b.sl
  rw [Oa.out, Ob.out, Z1.out, E1.out] at C
  refine C.mono ?_
  clear C
  rintro e w1 ⟨A1, n1, c1, xs1, rfl, hs1, hx1, hv1, hbn⟩
  replace a := a.on hbn
  replace b := b.on hbn
  replace d := d.on hbn
  replace HB := Lib.hid (show Below r0 w w1 from below_chain HB.out (by have := HR.out; have := HB.out.size; omega) hbn)
  clear hbn
  have F1 := Lib.hid (And.intro hx1 hv1)
  clear hx1 hv1
  have ka0 := a.bx.c0
  have ka1 := a.bx.c1
  have kb0 := b.bx.c0
  have kb1 := b.bx.c1
  have la := a.bx.lt
  have lb := b.bx.lt
  go_wp2_with fail
  clear ka0 ka1 la kb0 kb1 lb
  generalize hW : World.alloc w1 _ = V1
  have x : Ba V1 w1.heap.size (decide (z < 0)) A1 n1 c1 xs1 := by rw [← hW]; exact ⟨Bx.new _ _ _ _ _, hs1.on (below_new _ _)⟩
  replace a : Ba V1 (r0) (neg) A n c xs := by rw [← hW]; exact a.on (below_new _ _)
  replace b : Ba V1 (r0 + 1) (neg') A' n' c' ys := by rw [← hW]; exact b.on (below_new _ _)
  replace d : Ba V1 (r0 + 1 + 1) (neg'') A'' n'' c'' zs := by rw [← hW]; exact d.on (below_new _ _)
  replace HB := Lib.hid (show Below r0 w V1 by rw [← hW]; exact HB.out.alloc (by have := HR.out; have := HB.out.size; omega) _)
  clear hW hs1
  generalize w1.heap.size = r1 at *
  have C := add_ov (neg := neg') (neg' := neg) b.sl a.sl
  rw [Ob.out, Oa.out, Z2.out, E2.out] at C
  refine C.mono ?_
  clear C
  rintro e w2 ⟨A2, n2, c2, xs2, rfl, hs2, hx2, hv2, hbn⟩
  replace a := a.on hbn
  replace b := b.on hbn
  replace d := d.on hbn
  replace x := x.on hbn
  replace HB := Lib.hid (show Below r0 w w2 from below_chain HB.out (by have := HR.out; have := HB.out.size; omega) hbn)
  clear hbn
  have F2 := Lib.hid (And.intro hx2 hv2)
  clear hx2 hv2
  have ka0 := a.bx.c0
  have ka1 := a.bx.c1
  have kb0 := b.bx.c0
  have kb1 := b.bx.c1
  have la := a.bx.lt
  have lb := b.bx.lt
  go_wp2_with fail
  clear ka0 ka1 la kb0 kb1 lb
  generalize hW : World.alloc w2 _ = V2
  have y : Ba V2 w2.heap.size (decide (z < 0)) A2 n2 c2 xs2 := by rw [← hW]; exact ⟨Bx.new _ _ _ _ _, hs2.on (below_new _ _)⟩
  replace a : Ba V2 (r0) (neg) A n c xs := by rw [← hW]; exact a.on (below_new _ _)
  replace b : Ba V2 (r0 + 1) (neg') A' n' c' ys := by rw [← hW]; exact b.on (below_new _ _)
  replace d : Ba V2 (r0 + 1 + 1) (neg'') A'' n'' c'' zs := by rw [← hW]; exact d.on (below_new _ _)
  replace x : Ba V2 (r1) (decide (z < 0)) A1 n1 c1 xs1 := by rw [← hW]; exact x.on (below_new _ _)
  replace HB := Lib.hid (show Below r0 w V2 by rw [← hW]; exact HB.out.alloc (by have := HR.out; have := HB.out.size; omega) _)
  clear hW hs2
  generalize w2.heap.size = r2 at *
  have C := mul_ov (neg := neg) (neg' := neg') a.sl b.sl
  rw [Oa.out, Ob.out, Z3.out, E3.out] at C
  refine C.mono ?_
  clear C
  rintro e w3 ⟨A3, n3, c3, xs3, rfl, hs3, hx3, hv3, hbn⟩
  replace a := a.on hbn
  replace b := b.on hbn
  replace d := d.on hbn
  replace x := x.on hbn
  replace y := y.on hbn
  replace HB := Lib.hid (show Below r0 w w3 from below_chain HB.out (by have := HR.out; have := HB.out.size; omega) hbn)
  clear hbn
  have F3 := Lib.hid (And.intro hx3 hv3)
  clear hx3 hv3
  have ka0 := a.bx.c0
  have ka1 := a.bx.c1
  have kb0 := b.bx.c0
  have kb1 := b.bx.c1
  have la := a.bx.lt
  have lb := b.bx.lt
  go_wp2_with fail
  clear ka0 ka1 la kb0 kb1 lb
  generalize hW : World.alloc w3 _ = V3
  have p : Ba V3 w3.heap.size (decide (z' < 0)) A3 n3 c3 xs3 := by rw [← hW]; exact ⟨Bx.new _ _ _ _ _, hs3.on (below_new _ _)⟩
  replace a : Ba V3 (r0) (neg) A n c xs := by rw [← hW]; exact a.on (below_new _ _)
  replace b : Ba V3 (r0 + 1) (neg') A' n' c' ys := by rw [← hW]; exact b.on (below_new _ _)
  replace d : Ba V3 (r0 + 1 + 1) (neg'') A'' n'' c'' zs := by rw [← hW]; exact d.on (below_new _ _)
  replace x : Ba V3 (r1) (decide (z < 0)) A1 n1 c1 xs1 := by rw [← hW]; exact x.on (below_new _ _)
  replace y : Ba V3 (r2) (decide (z < 0)) A2 n2 c2 xs2 := by rw [← hW]; exact y.on (below_new _ _)
  replace HB := Lib.hid (show Below r0 w V3 by rw [← hW]; exact HB.out.alloc (by have := HR.out; have := HB.out.size; omega) _)
  clear hW hs3
  generalize w3.heap.size = r3 at *
  have C := mul_ov (neg := neg') (neg' := neg) b.sl a.sl
  rw [Ob.out, Oa.out, Z4.out, E4.out] at C
  refine C.mono ?_
  clear C
  rintro e w4 ⟨A4, n4, c4, xs4, rfl, hs4, hx4, hv4, hbn⟩
  replace a := a.on hbn
  replace b := b.on hbn
  replace d := d.on hbn
  replace x := x.on hbn
  replace y := y.on hbn
  replace p := p.on hbn
  replace HB := Lib.hid (show Below r0 w w4 from below_chain HB.out (by have := HR.out; have := HB.out.size; omega) hbn)
  clear hbn
  have F4 := Lib.hid (And.intro hx4 hv4)
  clear hx4 hv4
  go_wp2_with fail
  generalize hW : World.alloc w4 _ = V4
  have q : Ba V4 w4.heap.size (decide (z' < 0)) A4 n4 c4 xs4 := by rw [← hW]; exact ⟨Bx.new _ _ _ _ _, hs4.on (below_new _ _)⟩
  replace a : Ba V4 (r0) (neg) A n c xs := by rw [← hW]; exact a.on (below_new _ _)
  replace b : Ba V4 (r0 + 1) (neg') A' n' c' ys := by rw [← hW]; exact b.on (below_new _ _)
  replace d : Ba V4 (r0 + 1 + 1) (neg'') A'' n'' c'' zs := by rw [← hW]; exact d.on (below_new _ _)
  replace x : Ba V4 (r1) (decide (z < 0)) A1 n1 c1 xs1 := by rw [← hW]; exact x.on (below_new _ _)
  replace y : Ba V4 (r2) (decide (z < 0)) A2 n2 c2 xs2 := by rw [← hW]; exact y.on (below_new _ _)
  replace p : Ba V4 (r3) (decide (z' < 0)) A3 n3 c3 xs3 := by rw [← hW]; exact p.on (below_new _ _)
  replace HB := Lib.hid (show Below r0 w V4 by rw [← hW]; exact HB.out.alloc (by have := HR.out; have := HB.out.size; omega) _)
  clear hW hs4
  generalize w4.heap.size = r4 at *
  refine (works_any _).mono ?_
  rintro e w5 ⟨rfl, hbn⟩
  replace a := a.on hbn
  replace b := b.on hbn
  replace d := d.on hbn
  replace x := x.on hbn
  replace y := y.on hbn
  replace p := p.on hbn
  replace q := q.on hbn
  replace HB := Lib.hid (show Below r0 w w5 from below_chain HB.out (by have := HR.out; have := HB.out.size; omega) hbn)
  clear hbn
  have kx0 := x.bx.c0
  have kx1 := x.bx.c1
  have ky0 := y.bx.c0
  have ky1 := y.bx.c1
  have lx := x.bx.lt
  have ly := y.bx.lt
  go_wp2_with fail
  clear kx0 kx1 lx ky0 ky1 ly
  refine (lsame_yes _ _ _ _ _ _ _ _ _ _ _ x.sl y.sl rfl (uniq x.sl.ok y.sl.ok F1.out.1 F2.out.1 (F1.out.2.trans F2.out.2.symm))).mono ?_
  rintro e w6 ⟨rfl, hbn⟩
  replace a := a.on hbn
  replace b := b.on hbn
  replace d := d.on hbn
  replace x := x.on hbn
  replace y := y.on hbn
  replace p := p.on hbn
  replace q := q.on hbn
  replace HB := Lib.hid (show Below r0 w w6 from below_chain HB.out (by have := HR.out; have := HB.out.size; omega) hbn)
  clear hbn
  have kp0 := p.bx.c0
  have kp1 := p.bx.c1
  have kq0 := q.bx.c0
  have kq1 := q.bx.c1
  have lp := p.bx.lt
  have lq := q.bx.lt
  go_wp2_with fail
  clear kp0 kp1 lp kq0 kq1 lq
  refine (lsame_yes _ _ _ _ _ _ _ _ _ _ _ p.sl q.sl rfl (uniq p.sl.ok q.sl.ok F3.out.1 F4.out.1 (F3.out.2.trans F4.out.2.symm))).mono ?_
  rintro e w7 ⟨rfl, hbn⟩
  replace a := a.on hbn
  replace b := b.on hbn
  replace d := d.on hbn
  replace x := x.on hbn
  replace y := y.on hbn
  replace p := p.on hbn
  replace q := q.on hbn
  replace HB := Lib.hid (show Below r0 w w7 from below_chain HB.out (by have := HR.out; have := HB.out.size; omega) hbn)
  clear hbn
  have ka0 := a.bx.c0
  have ka1 := a.bx.c1
  have kb0 := b.bx.c0
  have kb1 := b.bx.c1
  have kd0 := d.bx.c0
  have kd1 := d.bx.c1
  have la := a.bx.lt
  have lb := b.bx.lt
  have ld := d.bx.lt
  go_wp2_with fail
  clear ka0 ka1 la kb0 kb1 lb kd0 kd1 ld
  refine (K5.out _ a.sl b.sl d.sl).mono ?_
  rintro e w8 ⟨rfl, hbn⟩
  replace a := a.on hbn
  replace b := b.on hbn
  replace d := d.on hbn
  replace x := x.on hbn
  replace y := y.on hbn
  replace p := p.on hbn
  replace q := q.on hbn
  replace HB := Lib.hid (show Below r0 w w8 from below_chain HB.out (by have := HR.out; have := HB.out.size; omega) hbn)
  clear hbn
  have ka0 := a.bx.c0
  have ka1 := a.bx.c1
  have kb0 := b.bx.c0
  have kb1 := b.bx.c1
  have kd0 := d.bx.c0
  have kd1 := d.bx.c1
  have la := a.bx.lt
  have lb := b.bx.lt
  have ld := d.bx.lt
  go_wp2_with fail
  clear ka0 ka1 la kb0 kb1 lb kd0 kd1 ld
  refine (K6.out _ a.sl b.sl d.sl).mono ?_
  rintro e w9 ⟨rfl, hbn⟩
  replace a := a.on hbn
  replace b := b.on hbn
  replace d := d.on hbn
  replace x := x.on hbn
  replace y := y.on hbn
  replace p := p.on hbn
  replace q := q.on hbn
  replace HB := Lib.hid (show Below r0 w w9 from below_chain HB.out (by have := HR.out; have := HB.out.size; omega) hbn)
  clear hbn
  go_wp2
  go_ret
  exact ⟨rfl, HR.out ▸ HB.out⟩


theorem integerRing_any (neg neg' neg'' : Bool) (A A' A'' : Option Addr) (n c n' c' n'' c'' : Nat) (xs ys zs : List Nat) (w : World) (h : Sl w w.heap.size A n c xs) (h' : Sl w w.heap.size A' n' c' ys) (h'' : Sl w w.heap.size A'' n'' c'' zs) :
    Calls Try.prog 11 #[.agg #[.bool neg, .slice A n c], .agg #[.bool neg', .slice A' n' c'], .agg #[.bool neg'', .slice A'' n'' c'']] w (fun e w' => e = .returned (.bool true) ∧ Below w.heap.size w w') :=
  ring_walk neg neg' neg'' A A' A'' n c n' c' n'' c'' xs ys zs w h h' h'' _ _ _ _ _ _ rfl rfl rfl rfl (o2_comm Int.add_comm _ _).1 (o2_comm Int.add_comm _ _).2 rfl rfl (o2_comm Int.mul_comm _ _).1 (o2_comm Int.mul_comm _ _).2
    (fun w h h' h'' => associates_any neg neg' neg'' A A' A'' n c n' c' n'' c'' xs ys zs w h h' h'') (fun w h h' h'' => distributes_any neg neg' neg'' A A' A'' n c n' c' n'' c'' xs ys zs w h h' h'')

end Go.Proofs.Ytalgcppogjpilaa
