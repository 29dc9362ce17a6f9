/-
  The walks of IntegerSquares.
-/
import Derived.Test.YtalgcppogjpilaaSqrtZ
import Derived.Test.YtalgcppogjpilaaLawHalf1
namespace Go.Proofs.Ytalgcppogjpilaa
open Go.RowKit

/-- Behind the next number of the root: its box, and what stood before. -/
def SqMid (r0 : Nat) (w : World) (neg : Bool) (A : Option Addr) (n c : Nat) (xs : List Nat) (rx : Nat) (ng : Bool) (A1 : Option Addr) (n1 c1 : Nat) (xs1 : List Nat) (z3 : Int) (s10 s11 : Value) (wx : World) : Prop :=
  ∃ (r9 : Nat) (A9 : Option Addr) (n9 c9 : Nat) (xs9 : List Nat), s10 = .pointer (some ⟨r9, 0, none⟩) ∧ s11 = .int .i64 0 ∧ Ba wx r9 (decide (z3 < 0)) A9 n9 c9 xs9 ∧ (Nz xs9 ∧ val xs9 = z3.natAbs) ∧ Ba wx r0 neg A n c xs ∧ Ba wx rx ng A1 n1 c1 xs1 ∧ Below r0 w wx

theorem sqMid_old {r0 : Nat} {w : World} {neg : Bool} {A : Option Addr} {n c : Nat} {xs : List Nat} {rx : Nat} {ng : Bool} {A1 : Option Addr} {n1 c1 : Nat} {xs1 : List Nat} {z3 : Int} {v : World} {r9 : Nat} {A9 : Option Addr} {n9 c9 : Nat} {xs9 : List Nat}
    (bn : Bx v r9 false none 0 0) (a : Ba v r0 neg A n c xs) (x : Ba v rx ng A1 n1 c1 xs1) (ne1 : r0 ≠ r9) (ne2 : rx ≠ r9) (hB : Below r0 w v) (hle : r0 ≤ r9) (hs : Sl v v.heap.size A9 n9 c9 xs9) (hF : Nz xs9 ∧ val xs9 = z3.natAbs) :
    SqMid r0 w neg A n c xs rx ng A1 n1 c1 xs1 z3 (.pointer (some ⟨r9, 0, none⟩)) (.int .i64 0) ((v.setCell ⟨r9, 0, none⟩ (.bool (decide (z3 < 0)))).setCell ⟨r9, 1, none⟩ (.slice A9 n9 c9)) :=
  have nb : Ba v r9 false none 0 0 [] := ⟨bn, Sl.nil _ _⟩
  ⟨r9, A9, n9, c9, xs9, rfl, rfl, nb.stored hs _, hF, a.aside nb ne1 _ _, x.aside nb ne2 _ _, below_ret hB hle _ _⟩
theorem sqMid_new {r0 : Nat} {w : World} {neg : Bool} {A : Option Addr} {n c : Nat} {xs : List Nat} {rx : Nat} {ng : Bool} {A1 : Option Addr} {n1 c1 : Nat} {xs1 : List Nat} {z3 : Int} {v : World} {A9 : Option Addr} {n9 c9 : Nat} {xs9 : List Nat}
    (a : Ba v r0 neg A n c xs) (x : Ba v rx ng A1 n1 c1 xs1) (hB : Below r0 w v) (hle : r0 ≤ v.heap.size) (hs : Sl v v.heap.size A9 n9 c9 xs9) (hF : Nz xs9 ∧ val xs9 = z3.natAbs) :
    SqMid r0 w neg A n c xs rx ng A1 n1 c1 xs1 z3 (.pointer (some ⟨v.heap.size, 0, none⟩)) (.int .i64 0) (v.alloc (.cells #[.bool (decide (z3 < 0)), .slice A9 n9 c9] 24)) :=
  ⟨v.heap.size, A9, n9, c9, xs9, rfl, rfl, ⟨Bx.new _ _ _ _ _, hs.on (below_new _ _)⟩, hF, a.on (below_new _ _), x.on (below_new _ _), hB.alloc hle _⟩

set_option maxRecDepth 20000 in
set_option maxHeartbeats 4000000 in
theorem squares_bad (neg : Bool) (A : Option Addr) (n c : Nat) (xs : List Nat) (w : World) (h : Sl w w.heap.size A n c xs) (hv : vld neg xs = false) :
    Calls Try.prog 14 #[.agg #[.bool neg, .slice A n c]] w (fun e w' => e = .returned (.bool true) ∧ Below w.heap.size w w') := by
  go_enter Try.func14, Try.ntmps14
  go_wp2_with fail
  generalize hW : World.alloc w _ = V
  obtain ⟨hb, a⟩ := lone_box neg A n c xs w V h hW
  have HB := Lib.hid hb
  clear hW hb h
  generalize hr0 : w.heap.size = r0 at *
  have HR := Lib.hid hr0
  clear hr0
  have ka0 := a.bx.c0
  have ka1 := a.bx.c1
  have la := a.bx.lt
  go_wp2_with fail
  clear ka0 ka1 la
  refine (rvalid_any _ _ _ _ _ xs _ a.sl (Nat.le_refl _)).mono ?_
  rintro e w1 ⟨rfl, hbn⟩
  replace a := a.on hbn
  replace HB := Lib.hid (show Below r0 w w1 from below_chain HB.out (by have := HR.out; have := HB.out.size; omega) hbn)
  clear hbn
  rw [hv]
  go_wp2_with fail
  refine (works_any _).mono ?_
  rintro e w2 ⟨rfl, hbn⟩
  replace a := a.on hbn
  replace HB := Lib.hid (show Below r0 w w2 from below_chain HB.out (by have := HR.out; have := HB.out.size; omega) hbn)
  clear hbn
  go_wp2
  go_ret
  exact ⟨rfl, HR.out ▸ HB.out⟩


set_option maxRecDepth 20000 in
set_option maxHeartbeats 4000000 in
theorem squares_neg (A : Option Addr) (n c : Nat) (xs : List Nat) (w : World) (h : Sl w w.heap.size A n c xs) (hv : vld true xs = true) :
    Calls Try.prog 14 #[.agg #[.bool true, .slice A n c]] w (fun e w' => e = .returned (.bool true) ∧ Below w.heap.size w w') := by
  go_enter Try.func14, Try.ntmps14
  go_wp2_with fail
  generalize hW : World.alloc w _ = V
  obtain ⟨hb, a⟩ := lone_box true A n c xs w V h hW
  have HB := Lib.hid hb
  clear hW hb h
  generalize hr0 : w.heap.size = r0 at *
  have HR := Lib.hid hr0
  clear hr0
  have ka0 := a.bx.c0
  have ka1 := a.bx.c1
  have la := a.bx.lt
  go_wp2_with fail
  clear ka0 ka1 la
  refine (rvalid_any _ _ _ _ _ xs _ a.sl (Nat.le_refl _)).mono ?_
  rintro e w1 ⟨rfl, hbn⟩
  replace a := a.on hbn
  replace HB := Lib.hid (show Below r0 w w1 from below_chain HB.out (by have := HR.out; have := HB.out.size; omega) hbn)
  clear hbn
  rw [hv]
  have ka0 := a.bx.c0
  have ka1 := a.bx.c1
  have la := a.bx.lt
  go_wp2_with fail
  clear ka0 ka1 la
  refine (works_any _).mono ?_
  rintro e w2 ⟨rfl, hbn⟩
  replace a := a.on hbn
  replace HB := Lib.hid (show Below r0 w w2 from below_chain HB.out (by have := HR.out; have := HB.out.size; omega) hbn)
  clear hbn
  go_wp2
  go_ret
  exact ⟨rfl, HR.out ▸ HB.out⟩


set_option maxRecDepth 20000 in
set_option maxHeartbeats 4000000 in
theorem squares_a (A : Option Addr) (n c : Nat) (xs : List Nat) (w : World) (h : Sl w w.heap.size A n c xs) (va z1 z2 o z3 z4 dd z5 e5 : Int) (hv : vld false xs = true) (Oa : Hid (ov false xs = some va))
    (K1 : Hid (∀ w : World, Sl w w.heap.size A n c xs → Calls Try.prog 37 #[.agg #[.bool false, .slice A n c]] w (RetSq z1 true 0 w))) (B1 : Hid (z1.natAbs < BIG))
    (Z2 : Hid (o2Z (· * ·) (some z1) (some z1) = z2)) (E2 : Hid (o2E (· * ·) (some z1) (some z1) = 0)) (B2 : Hid (z2.natAbs < BIG)) (HC : Hid (Int.sign (z2 - va) = 0))
    (KO : Hid (∀ w : World, Calls Try.prog 18 #[.int .i64 1] w (RetI o w))) (BO : Hid (o.natAbs < BIG))
    (Z3 : Hid (o2Z (· + ·) (some z1) (some o) = z3)) (E3 : Hid (o2E (· + ·) (some z1) (some o) = 0)) (B3 : Hid (z3.natAbs < BIG))
    (Z4 : Hid (o2Z (· * ·) (some z3) (some z3) = z4)) (E4 : Hid (o2E (· * ·) (some z3) (some z3) = 2)) (B4 : Hid (z4.natAbs < BIG)) (HD : Hid (Int.sign (z4 - va) = dd))
    (Z5 : Hid (o2Z (· * ·) (some va) (some va) = z5)) (E5 : Hid (o2E (· * ·) (some va) (some va) = e5))
    (K6 : Hid ((e5 != 0) = false → ∀ (w : World) (A : Option Addr) (n c : Nat) (zs : List Nat), Sl w w.heap.size A n c zs → Nz zs → val zs = z5.natAbs → Calls Try.prog 37 #[.agg #[.bool (decide (z5 < 0)), .slice A n c]] w (RetSq va true 0 w))) :
    Calls Try.prog 14 #[.agg #[.bool false, .slice A n c]] w (fun e w' => e = .returned (.bool true) ∧ Below w.heap.size w w') := by
  go_enter Try.func14, Try.ntmps14
  go_wp2_with fail
  generalize hW : World.alloc w _ = V
  obtain ⟨hb, a⟩ := lone_box false A n c xs w V h hW
  have HB := Lib.hid hb
  clear hW hb h
  generalize hr0 : w.heap.size = r0 at *
  have HR := Lib.hid hr0
  clear hr0
  have ka0 := a.bx.c0
  have ka1 := a.bx.c1
  have la := a.bx.lt
  go_wp2_with fail
  clear ka0 ka1 la
  refine (rvalid_any _ _ _ _ _ xs _ a.sl (Nat.le_refl _)).mono ?_
  rintro e w1 ⟨rfl, hbn⟩
  replace a := a.on hbn
  replace HB := Lib.hid (show Below r0 w w1 from below_chain HB.out (by have := HR.out; have := HB.out.size; omega) hbn)
  clear hbn
  rw [hv]
  have ka0 := a.bx.c0
  have ka1 := a.bx.c1
  have la := a.bx.lt
  go_wp2_with fail
  clear ka0 ka1 la
  have C := K1.out _ a.sl
  refine C.mono ?_
  clear C
  rintro e w2 ⟨A2, n2, c2, xs2, rfl, hs2, hx2, hv2, hbn⟩
  replace a := a.on hbn
  replace HB := Lib.hid (show Below r0 w w2 from below_chain HB.out (by have := HR.out; have := HB.out.size; omega) hbn)
  clear hbn
  have F2 := Lib.hid (And.intro hx2 hv2)
  clear hx2 hv2
  go_wp2_with fail
  generalize hW : World.alloc w2 _ = V2
  have x : Ba V2 w2.heap.size (decide (z1 < 0)) A2 n2 c2 xs2 := by rw [← hW]; exact ⟨Bx.new _ _ _ _ _, hs2.on (below_new _ _)⟩
  replace a : Ba V2 (r0) (false) A n c xs := by rw [← hW]; exact a.on (below_new _ _)
  replace HB := Lib.hid (show Below r0 w V2 by rw [← hW]; exact HB.out.alloc (by have := HR.out; have := HB.out.size; omega) _)
  clear hW hs2
  generalize w2.heap.size = r2 at *
  have C := mul_ov (neg := decide (z1 < 0)) (neg' := decide (z1 < 0)) x.sl x.sl
  rw [ov_res x.sl.ok F2.out.1 F2.out.2 B1.out, Z2.out, E2.out] at C
  refine C.mono ?_
  clear C
  rintro e w3 ⟨A3, n3, c3, xs3, rfl, hs3, hx3, hv3, hbn⟩
  replace a := a.on hbn
  replace x := x.on hbn
  replace HB := Lib.hid (show Below r0 w w3 from below_chain HB.out (by have := HR.out; have := HB.out.size; omega) hbn)
  clear hbn
  have F3 := Lib.hid (And.intro hx3 hv3)
  clear hx3 hv3
  have ka0 := a.bx.c0
  have ka1 := a.bx.c1
  have la := a.bx.lt
  go_wp2_with fail
  clear ka0 ka1 la
  generalize hW : World.alloc w3 _ = V3
  have s : Ba V3 w3.heap.size (decide (z2 < 0)) A3 n3 c3 xs3 := by rw [← hW]; exact ⟨Bx.new _ _ _ _ _, hs3.on (below_new _ _)⟩
  replace a : Ba V3 (r0) (false) A n c xs := by rw [← hW]; exact a.on (below_new _ _)
  replace x : Ba V3 (r2) (decide (z1 < 0)) A2 n2 c2 xs2 := by rw [← hW]; exact x.on (below_new _ _)
  replace HB := Lib.hid (show Below r0 w V3 by rw [← hW]; exact HB.out.alloc (by have := HR.out; have := HB.out.size; omega) _)
  clear hW hs3
  generalize w3.heap.size = r3 at *
  refine (cmp_ov s.sl a.sl (ov_res s.sl.ok F3.out.1 F3.out.2 B2.out) Oa.out HC.out).mono ?_
  rintro e w4 ⟨rfl, hbn⟩
  replace a := a.on hbn
  replace x := x.on hbn
  replace s := s.on hbn
  replace HB := Lib.hid (show Below r0 w w4 from below_chain HB.out (by have := HR.out; have := HB.out.size; omega) hbn)
  clear hbn
  clear s
  go_upto_region 6 with fail
  go_cut [10, 11] (fun s10 s11 wx => SqMid r0 w false A n c xs r2 (decide (z1 < 0)) A2 n2 c2 xs2 z3 s10 s11 wx)
  case first =>
    have a0 := a.drew
    have x0 := x.drew
    have B : Below r0 w w4.drew := HB.out.drew
    have na := Nat.ne_of_lt a.bx.lt
    have nx := Nat.ne_of_lt x.bx.lt
    have ge0 : r0 ≤ w4.heap.size := by have := HR.out; have := HB.out.size; omega
    have o0 := x.bx.c0
    have o1 := x.bx.c1
    have m0 := World.new_ne _ _ o0
    clear HB a x
    have p0 := x0.bx.c0
    have p1 := x0.bx.c1
    have q0 := World.new_ne _ _ p0
    have q1 := World.new_ne _ _ p1
    have G0 := Lib.hid (And.intro na (And.intro nx ge0))
    clear na nx ge0
    go_region_held3 (fun w' => w'.cell? ⟨r2, 0, none⟩ = some (.bool (decide (z1 < 0))) ∧ w'.cell? ⟨r2, 1, none⟩ = some (.slice A2 n2 c2))
      (first | exact ⟨p0, p1⟩ | go_keep)
      (first
        | (go_at_call 18
           refine (KO.out _).mono ?_
           rintro e v1 ⟨AO, nO, cO, xsO, rfl, hsO, hxO, hvO, hbn⟩
           have FO := Lib.hid (And.intro hxO hvO)
           first
           | (have hb1 : Below w4.drew.heap.size w4.drew v1 := ⟨hbn.os, hbn.tape, hbn.output, hbn.size, hbn.block⟩
              have a1 := a0.on hb1
              have x1 := x0.on hb1
              have D1 := below_chain B G0.out.2.2 hb1)
           | (have hb1 : Below (w4.drew.alloc (.cells #[.bool false, .slice none 0 0] 24)).heap.size (w4.drew.alloc (.cells #[.bool false, .slice none 0 0] 24)) v1 := ⟨hbn.os, hbn.tape, hbn.output, hbn.size, hbn.block⟩
              have bn : Bx v1 w4.heap.size false none 0 0 := (Bx.new w4.drew false none 0 0).below hb1 (by simp)
              have a1 := (a0.on (below_new _ _)).on hb1
              have x1 := (x0.on (below_new _ _)).on hb1
              have D1 := below_chain (below_chain B G0.out.2.2 (below_new _ _)) (Nat.le_trans G0.out.2.2 (by simp)) hb1)
           have na1 := Nat.ne_of_lt a1.bx.lt
           have nx1 := Nat.ne_of_lt x1.bx.lt
           have ge1 : r0 ≤ v1.heap.size := by have := HR.out; have := D1.size; omega
           have G1 := Lib.hid (And.intro na1 (And.intro nx1 ge1))
           clear hbn hxO hvO hb1 p0 p1 q0 q1 o0 o1 m0 B na1 nx1 ge1
           have p0 := x1.bx.c0
           have p1 := x1.bx.c1
           have q0 := World.new_ne _ _ p0
           have q1 := World.new_ne _ _ p1)
        | (go_at_call 25
           first
           | (have C := add_ov (neg := decide (z1 < 0)) (neg' := decide (o < 0)) x1.sl hsO
              rw [ov_res x1.sl.ok F2.out.1 F2.out.2 B1.out, ov_res hsO.ok FO.out.1 FO.out.2 BO.out, Z3.out, E3.out] at C
              refine C.mono ?_
              clear C
              rintro e v2 ⟨A90, n90, c90, xs90, rfl, hs90, hx90, hv90, hbn⟩
              have a2 := a1.on hbn
              have x2 := x1.on hbn
              have D2 := below_chain D1 G1.out.2.2 hbn
              have nq := G0.out.2.1.symm
              try replace bn := bn.below hbn bn.lt)
           | (have be := below_new v1 (.cells #[.bool false, .slice none 0 0] 24)
              have bn := Bx.new v1 false none 0 0
              have C := add_ov (neg := decide (z1 < 0)) (neg' := decide (o < 0)) (x1.on be).sl (hsO.on be)
              rw [ov_res x1.sl.ok F2.out.1 F2.out.2 B1.out, ov_res hsO.ok FO.out.1 FO.out.2 BO.out, Z3.out, E3.out] at C
              refine C.mono ?_
              clear C
              rintro e v2 ⟨A90, n90, c90, xs90, rfl, hs90, hx90, hv90, hbn⟩
              have a2 := (a1.on be).on hbn
              have x2 := (x1.on be).on hbn
              have D2 := below_chain (below_chain D1 G1.out.2.2 be) (Nat.le_trans G1.out.2.2 be.size) hbn
              have nq := G1.out.2.1.symm
              replace bn := bn.below hbn bn.lt
              clear be)
           have F90 := Lib.hid (And.intro hx90 hv90)
           clear p0 p1 q0 q1 hbn hx90 hv90
           have na2 := Nat.ne_of_lt a2.bx.lt
           have nx2 := Nat.ne_of_lt x2.bx.lt
           have ge2 : r0 ≤ v2.heap.size := by have := HR.out; have := D2.size; omega
           have G2 := Lib.hid (And.intro na2 (And.intro nx2 ge2))
           clear na2 nx2 ge2
           have p0 := x2.bx.c0
           have p1 := x2.bx.c1
           have q0 := World.new_ne _ _ p0
           have q1 := World.new_ne _ _ p1
           try
             have t0 := bn.c0
             have t1 := bn.c1
             have t2 := bn.f 0
             have t3 := bn.f 1
             have bb : Ba v2 _ false none 0 0 [] := ⟨bn, Sl.nil _ _⟩
             clear bn))
    all_goals (go_wp2_with fail; go_meet; first
      | exact sqMid_new a2 x2 D2 G2.out.2.2 hs90 F90.out
      | exact sqMid_old bb.bx a2 x2 G0.out.1 G0.out.2.1 D2 G0.out.2.2 hs90 F90.out
      | exact sqMid_old bb.bx a2 x2 G1.out.1 G1.out.2.1 D2 G1.out.2.2 hs90 F90.out)
  case rest =>
  obtain ⟨r99, A99, n99, c99, xs99, rfl, rfl, p, F99', a, x, hb⟩ := hcut
  have HB := Lib.hid hb
  have F99 := Lib.hid F99'
  clear hb F99' x
  have kp0 := p.bx.c0
  have kp1 := p.bx.c1
  have lp := p.bx.lt
  go_wp2_with fail
  clear kp0 kp1 lp
  have C := mul_ov (neg := decide (z3 < 0)) (neg' := decide (z3 < 0)) p.sl p.sl
  rw [ov_res p.sl.ok F99.out.1 F99.out.2 B3.out, Z4.out, E4.out] at C
  refine C.mono ?_
  clear C
  rintro e w5 ⟨A5, n5, c5, xs5, rfl, hs5, hx5, hv5, hbn⟩
  replace a := a.on hbn
  replace p := p.on hbn
  replace HB := Lib.hid (show Below r0 w w5 from below_chain HB.out (by have := HR.out; have := HB.out.size; omega) hbn)
  clear hbn
  have F5 := Lib.hid (And.intro hx5 hv5)
  clear hx5 hv5
  have ka0 := a.bx.c0
  have ka1 := a.bx.c1
  have la := a.bx.lt
  go_wp2_with fail
  clear ka0 ka1 la
  generalize hW : World.alloc w5 _ = V5
  have t : Ba V5 w5.heap.size (decide (z4 < 0)) A5 n5 c5 xs5 := by rw [← hW]; exact ⟨Bx.new _ _ _ _ _, hs5.on (below_new _ _)⟩
  replace a : Ba V5 (r0) (false) A n c xs := by rw [← hW]; exact a.on (below_new _ _)
  replace p : Ba V5 (r99) (decide (z3 < 0)) A99 n99 c99 xs99 := by rw [← hW]; exact p.on (below_new _ _)
  replace HB := Lib.hid (show Below r0 w V5 by rw [← hW]; exact HB.out.alloc (by have := HR.out; have := HB.out.size; omega) _)
  clear hW hs5
  generalize w5.heap.size = r5 at *
  refine (cmp_ov t.sl a.sl (ov_res t.sl.ok F5.out.1 F5.out.2 B4.out) Oa.out HD.out).mono ?_
  rintro e w6 ⟨rfl, hbn⟩
  replace a := a.on hbn
  replace p := p.on hbn
  replace t := t.on hbn
  replace HB := Lib.hid (show Below r0 w w6 from below_chain HB.out (by have := HR.out; have := HB.out.size; omega) hbn)
  clear hbn
  go_wp2_with fail
  refine (works_any _).mono ?_
  rintro e w7 ⟨rfl, hbn⟩
  replace a := a.on hbn
  replace p := p.on hbn
  replace t := t.on hbn
  replace HB := Lib.hid (show Below r0 w w7 from below_chain HB.out (by have := HR.out; have := HB.out.size; omega) hbn)
  clear hbn
  have ka0 := a.bx.c0
  have ka1 := a.bx.c1
  have la := a.bx.lt
  go_wp2_with fail
  clear ka0 ka1 la
  have C := mul_ov (neg := false) (neg' := false) a.sl a.sl
  rw [Oa.out, Z5.out, E5.out] at C
  refine C.mono ?_
  clear C
  rintro e w8 ⟨A8, n8, c8, xs8, rfl, hs8, hx8, hv8, hbn⟩
  replace a := a.on hbn
  replace p := p.on hbn
  replace t := t.on hbn
  replace HB := Lib.hid (show Below r0 w w8 from below_chain HB.out (by have := HR.out; have := HB.out.size; omega) hbn)
  clear hbn
  have F8 := Lib.hid (And.intro hx8 hv8)
  clear hx8 hv8
  go_upto_region 11 with fail
  generalize hW : World.alloc w8 _ = V8
  have m : Ba V8 w8.heap.size (decide (z5 < 0)) A8 n8 c8 xs8 := by rw [← hW]; exact ⟨Bx.new _ _ _ _ _, hs8.on (below_new _ _)⟩
  replace a : Ba V8 (r0) (false) A n c xs := by rw [← hW]; exact a.on (below_new _ _)
  replace p : Ba V8 (r99) (decide (z3 < 0)) A99 n99 c99 xs99 := by rw [← hW]; exact p.on (below_new _ _)
  replace t : Ba V8 (r5) (decide (z4 < 0)) A5 n5 c5 xs5 := by rw [← hW]; exact t.on (below_new _ _)
  replace HB := Lib.hid (show Below r0 w V8 by rw [← hW]; exact HB.out.alloc (by have := HR.out; have := HB.out.size; omega) _)
  clear hW hs8
  generalize w8.heap.size = r8 at *
  by_cases he : (e5 != 0) = true
  · go_wp2
    go_ret
    exact ⟨rfl, HR.out ▸ HB.out⟩
  replace he : (e5 != 0) = false := by simpa using he
  have km0 := m.bx.c0
  have km1 := m.bx.c1
  have lm := m.bx.lt
  go_wp2_with fail
  clear km0 km1 lm
  have C := K6.out he _ _ _ _ _ m.sl F8.out.1 F8.out.2
  refine C.mono ?_
  clear C
  rintro e w9 ⟨A9, n9, c9, xs9, rfl, hs9, hx9, hv9, hbn⟩
  replace a := a.on hbn
  replace p := p.on hbn
  replace t := t.on hbn
  replace m := m.on hbn
  replace HB := Lib.hid (show Below r0 w w9 from below_chain HB.out (by have := HR.out; have := HB.out.size; omega) hbn)
  clear hbn
  have F9 := Lib.hid (And.intro hx9 hv9)
  clear hx9 hv9
  have ka0 := a.bx.c0
  have ka1 := a.bx.c1
  have la := a.bx.lt
  go_wp2_with fail
  clear ka0 ka1 la
  generalize hW : World.alloc w9 _ = V9
  have y : Ba V9 w9.heap.size (decide (va < 0)) A9 n9 c9 xs9 := by rw [← hW]; exact ⟨Bx.new _ _ _ _ _, hs9.on (below_new _ _)⟩
  replace a : Ba V9 (r0) (false) A n c xs := by rw [← hW]; exact a.on (below_new _ _)
  replace p : Ba V9 (r99) (decide (z3 < 0)) A99 n99 c99 xs99 := by rw [← hW]; exact p.on (below_new _ _)
  replace t : Ba V9 (r5) (decide (z4 < 0)) A5 n5 c5 xs5 := by rw [← hW]; exact t.on (below_new _ _)
  replace m : Ba V9 (r8) (decide (z5 < 0)) A8 n8 c8 xs8 := by rw [← hW]; exact m.on (below_new _ _)
  replace HB := Lib.hid (show Below r0 w V9 by rw [← hW]; exact HB.out.alloc (by have := HR.out; have := HB.out.size; omega) _)
  clear hW hs9
  generalize w9.heap.size = r9 at *
  refine (lsame_yes _ _ _ _ _ _ _ _ _ _ _ y.sl a.sl (ov_sign Oa.out) (uniq y.sl.ok a.sl.ok F9.out.1 (ov_parts Oa.out).1 (by rw [F9.out.2, (ov_parts Oa.out).2.1]))).mono ?_
  rintro e w10 ⟨rfl, hbn⟩
  replace a := a.on hbn
  replace p := p.on hbn
  replace t := t.on hbn
  replace m := m.on hbn
  replace y := y.on hbn
  replace HB := Lib.hid (show Below r0 w w10 from below_chain HB.out (by have := HR.out; have := HB.out.size; omega) hbn)
  clear hbn
  go_wp2
  go_ret
  exact ⟨rfl, HR.out ▸ HB.out⟩


set_option maxRecDepth 20000 in
set_option maxHeartbeats 4000000 in
theorem squares_b (A : Option Addr) (n c : Nat) (xs : List Nat) (w : World) (h : Sl w w.heap.size A n c xs) (va z1 z2 o z3 z4 z5 e5 : Int) (hv : vld false xs = true) (Oa : Hid (ov false xs = some va))
    (K1 : Hid (∀ w : World, Sl w w.heap.size A n c xs → Calls Try.prog 37 #[.agg #[.bool false, .slice A n c]] w (RetSq z1 true 0 w))) (B1 : Hid (z1.natAbs < BIG))
    (Z2 : Hid (o2Z (· * ·) (some z1) (some z1) = z2)) (E2 : Hid (o2E (· * ·) (some z1) (some z1) = 0)) (B2 : Hid (z2.natAbs < BIG)) (HC : Hid (Int.sign (z2 - va) = 0))
    (KO : Hid (∀ w : World, Calls Try.prog 18 #[.int .i64 1] w (RetI o w))) (BO : Hid (o.natAbs < BIG))
    (Z3 : Hid (o2Z (· + ·) (some z1) (some o) = z3)) (E3 : Hid (o2E (· + ·) (some z1) (some o) = 0)) (B3 : Hid (z3.natAbs < BIG))
    (Z4 : Hid (o2Z (· * ·) (some z3) (some z3) = z4)) (E4 : Hid (o2E (· * ·) (some z3) (some z3) = 0)) (B4 : Hid (z4.natAbs < BIG)) (HD : Hid (Int.sign (z4 - va) = 1))
    (Z5 : Hid (o2Z (· * ·) (some va) (some va) = z5)) (E5 : Hid (o2E (· * ·) (some va) (some va) = e5))
    (K6 : Hid ((e5 != 0) = false → ∀ (w : World) (A : Option Addr) (n c : Nat) (zs : List Nat), Sl w w.heap.size A n c zs → Nz zs → val zs = z5.natAbs → Calls Try.prog 37 #[.agg #[.bool (decide (z5 < 0)), .slice A n c]] w (RetSq va true 0 w))) :
    Calls Try.prog 14 #[.agg #[.bool false, .slice A n c]] w (fun e w' => e = .returned (.bool true) ∧ Below w.heap.size w w') := by
  go_enter Try.func14, Try.ntmps14
  go_wp2_with fail
  generalize hW : World.alloc w _ = V
  obtain ⟨hb, a⟩ := lone_box false A n c xs w V h hW
  have HB := Lib.hid hb
  clear hW hb h
  generalize hr0 : w.heap.size = r0 at *
  have HR := Lib.hid hr0
  clear hr0
  have ka0 := a.bx.c0
  have ka1 := a.bx.c1
  have la := a.bx.lt
  go_wp2_with fail
  clear ka0 ka1 la
  refine (rvalid_any _ _ _ _ _ xs _ a.sl (Nat.le_refl _)).mono ?_
  rintro e w1 ⟨rfl, hbn⟩
  replace a := a.on hbn
  replace HB := Lib.hid (show Below r0 w w1 from below_chain HB.out (by have := HR.out; have := HB.out.size; omega) hbn)
  clear hbn
  rw [hv]
  have ka0 := a.bx.c0
  have ka1 := a.bx.c1
  have la := a.bx.lt
  go_wp2_with fail
  clear ka0 ka1 la
  have C := K1.out _ a.sl
  refine C.mono ?_
  clear C
  rintro e w2 ⟨A2, n2, c2, xs2, rfl, hs2, hx2, hv2, hbn⟩
  replace a := a.on hbn
  replace HB := Lib.hid (show Below r0 w w2 from below_chain HB.out (by have := HR.out; have := HB.out.size; omega) hbn)
  clear hbn
  have F2 := Lib.hid (And.intro hx2 hv2)
  clear hx2 hv2
  go_wp2_with fail
  generalize hW : World.alloc w2 _ = V2
  have x : Ba V2 w2.heap.size (decide (z1 < 0)) A2 n2 c2 xs2 := by rw [← hW]; exact ⟨Bx.new _ _ _ _ _, hs2.on (below_new _ _)⟩
  replace a : Ba V2 (r0) (false) A n c xs := by rw [← hW]; exact a.on (below_new _ _)
  replace HB := Lib.hid (show Below r0 w V2 by rw [← hW]; exact HB.out.alloc (by have := HR.out; have := HB.out.size; omega) _)
  clear hW hs2
  generalize w2.heap.size = r2 at *
  have C := mul_ov (neg := decide (z1 < 0)) (neg' := decide (z1 < 0)) x.sl x.sl
  rw [ov_res x.sl.ok F2.out.1 F2.out.2 B1.out, Z2.out, E2.out] at C
  refine C.mono ?_
  clear C
  rintro e w3 ⟨A3, n3, c3, xs3, rfl, hs3, hx3, hv3, hbn⟩
  replace a := a.on hbn
  replace x := x.on hbn
  replace HB := Lib.hid (show Below r0 w w3 from below_chain HB.out (by have := HR.out; have := HB.out.size; omega) hbn)
  clear hbn
  have F3 := Lib.hid (And.intro hx3 hv3)
  clear hx3 hv3
  have ka0 := a.bx.c0
  have ka1 := a.bx.c1
  have la := a.bx.lt
  go_wp2_with fail
  clear ka0 ka1 la
  generalize hW : World.alloc w3 _ = V3
  have s : Ba V3 w3.heap.size (decide (z2 < 0)) A3 n3 c3 xs3 := by rw [← hW]; exact ⟨Bx.new _ _ _ _ _, hs3.on (below_new _ _)⟩
  replace a : Ba V3 (r0) (false) A n c xs := by rw [← hW]; exact a.on (below_new _ _)
  replace x : Ba V3 (r2) (decide (z1 < 0)) A2 n2 c2 xs2 := by rw [← hW]; exact x.on (below_new _ _)
  replace HB := Lib.hid (show Below r0 w V3 by rw [← hW]; exact HB.out.alloc (by have := HR.out; have := HB.out.size; omega) _)
  clear hW hs3
  generalize w3.heap.size = r3 at *
  refine (cmp_ov s.sl a.sl (ov_res s.sl.ok F3.out.1 F3.out.2 B2.out) Oa.out HC.out).mono ?_
  rintro e w4 ⟨rfl, hbn⟩
  replace a := a.on hbn
  replace x := x.on hbn
  replace s := s.on hbn
  replace HB := Lib.hid (show Below r0 w w4 from below_chain HB.out (by have := HR.out; have := HB.out.size; omega) hbn)
  clear hbn
  clear s
  go_upto_region 6 with fail
  go_cut [10, 11] (fun s10 s11 wx => SqMid r0 w false A n c xs r2 (decide (z1 < 0)) A2 n2 c2 xs2 z3 s10 s11 wx)
  case first =>
    have a0 := a.drew
    have x0 := x.drew
    have B : Below r0 w w4.drew := HB.out.drew
    have na := Nat.ne_of_lt a.bx.lt
    have nx := Nat.ne_of_lt x.bx.lt
    have ge0 : r0 ≤ w4.heap.size := by have := HR.out; have := HB.out.size; omega
    have o0 := x.bx.c0
    have o1 := x.bx.c1
    have m0 := World.new_ne _ _ o0
    clear HB a x
    have p0 := x0.bx.c0
    have p1 := x0.bx.c1
    have q0 := World.new_ne _ _ p0
    have q1 := World.new_ne _ _ p1
    have G0 := Lib.hid (And.intro na (And.intro nx ge0))
    clear na nx ge0
    go_region_held3 (fun w' => w'.cell? ⟨r2, 0, none⟩ = some (.bool (decide (z1 < 0))) ∧ w'.cell? ⟨r2, 1, none⟩ = some (.slice A2 n2 c2))
      (first | exact ⟨p0, p1⟩ | go_keep)
      (first
        | (go_at_call 18
           refine (KO.out _).mono ?_
           rintro e v1 ⟨AO, nO, cO, xsO, rfl, hsO, hxO, hvO, hbn⟩
           have FO := Lib.hid (And.intro hxO hvO)
           first
           | (have hb1 : Below w4.drew.heap.size w4.drew v1 := ⟨hbn.os, hbn.tape, hbn.output, hbn.size, hbn.block⟩
              have a1 := a0.on hb1
              have x1 := x0.on hb1
              have D1 := below_chain B G0.out.2.2 hb1)
           | (have hb1 : Below (w4.drew.alloc (.cells #[.bool false, .slice none 0 0] 24)).heap.size (w4.drew.alloc (.cells #[.bool false, .slice none 0 0] 24)) v1 := ⟨hbn.os, hbn.tape, hbn.output, hbn.size, hbn.block⟩
              have bn : Bx v1 w4.heap.size false none 0 0 := (Bx.new w4.drew false none 0 0).below hb1 (by simp)
              have a1 := (a0.on (below_new _ _)).on hb1
              have x1 := (x0.on (below_new _ _)).on hb1
              have D1 := below_chain (below_chain B G0.out.2.2 (below_new _ _)) (Nat.le_trans G0.out.2.2 (by simp)) hb1)
           have na1 := Nat.ne_of_lt a1.bx.lt
           have nx1 := Nat.ne_of_lt x1.bx.lt
           have ge1 : r0 ≤ v1.heap.size := by have := HR.out; have := D1.size; omega
           have G1 := Lib.hid (And.intro na1 (And.intro nx1 ge1))
           clear hbn hxO hvO hb1 p0 p1 q0 q1 o0 o1 m0 B na1 nx1 ge1
           have p0 := x1.bx.c0
           have p1 := x1.bx.c1
           have q0 := World.new_ne _ _ p0
           have q1 := World.new_ne _ _ p1)
        | (go_at_call 25
           first
           | (have C := add_ov (neg := decide (z1 < 0)) (neg' := decide (o < 0)) x1.sl hsO
              rw [ov_res x1.sl.ok F2.out.1 F2.out.2 B1.out, ov_res hsO.ok FO.out.1 FO.out.2 BO.out, Z3.out, E3.out] at C
              refine C.mono ?_
              clear C
              rintro e v2 ⟨A90, n90, c90, xs90, rfl, hs90, hx90, hv90, hbn⟩
              have a2 := a1.on hbn
              have x2 := x1.on hbn
              have D2 := below_chain D1 G1.out.2.2 hbn
              have nq := G0.out.2.1.symm
              try replace bn := bn.below hbn bn.lt)
           | (have be := below_new v1 (.cells #[.bool false, .slice none 0 0] 24)
              have bn := Bx.new v1 false none 0 0
              have C := add_ov (neg := decide (z1 < 0)) (neg' := decide (o < 0)) (x1.on be).sl (hsO.on be)
              rw [ov_res x1.sl.ok F2.out.1 F2.out.2 B1.out, ov_res hsO.ok FO.out.1 FO.out.2 BO.out, Z3.out, E3.out] at C
              refine C.mono ?_
              clear C
              rintro e v2 ⟨A90, n90, c90, xs90, rfl, hs90, hx90, hv90, hbn⟩
              have a2 := (a1.on be).on hbn
              have x2 := (x1.on be).on hbn
              have D2 := below_chain (below_chain D1 G1.out.2.2 be) (Nat.le_trans G1.out.2.2 be.size) hbn
              have nq := G1.out.2.1.symm
              replace bn := bn.below hbn bn.lt
              clear be)
           have F90 := Lib.hid (And.intro hx90 hv90)
           clear p0 p1 q0 q1 hbn hx90 hv90
           have na2 := Nat.ne_of_lt a2.bx.lt
           have nx2 := Nat.ne_of_lt x2.bx.lt
           have ge2 : r0 ≤ v2.heap.size := by have := HR.out; have := D2.size; omega
           have G2 := Lib.hid (And.intro na2 (And.intro nx2 ge2))
           clear na2 nx2 ge2
           have p0 := x2.bx.c0
           have p1 := x2.bx.c1
           have q0 := World.new_ne _ _ p0
           have q1 := World.new_ne _ _ p1
           try
             have t0 := bn.c0
             have t1 := bn.c1
             have t2 := bn.f 0
             have t3 := bn.f 1
             have bb : Ba v2 _ false none 0 0 [] := ⟨bn, Sl.nil _ _⟩
             clear bn))
    all_goals (go_wp2_with fail; go_meet; first
      | exact sqMid_new a2 x2 D2 G2.out.2.2 hs90 F90.out
      | exact sqMid_old bb.bx a2 x2 G0.out.1 G0.out.2.1 D2 G0.out.2.2 hs90 F90.out
      | exact sqMid_old bb.bx a2 x2 G1.out.1 G1.out.2.1 D2 G1.out.2.2 hs90 F90.out)
  case rest =>
  obtain ⟨r99, A99, n99, c99, xs99, rfl, rfl, p, F99', a, x, hb⟩ := hcut
  have HB := Lib.hid hb
  have F99 := Lib.hid F99'
  clear hb F99' x
  have kp0 := p.bx.c0
  have kp1 := p.bx.c1
  have lp := p.bx.lt
  go_wp2_with fail
  clear kp0 kp1 lp
  have C := mul_ov (neg := decide (z3 < 0)) (neg' := decide (z3 < 0)) p.sl p.sl
  rw [ov_res p.sl.ok F99.out.1 F99.out.2 B3.out, Z4.out, E4.out] at C
  refine C.mono ?_
  clear C
  rintro e w5 ⟨A5, n5, c5, xs5, rfl, hs5, hx5, hv5, hbn⟩
  replace a := a.on hbn
  replace p := p.on hbn
  replace HB := Lib.hid (show Below r0 w w5 from below_chain HB.out (by have := HR.out; have := HB.out.size; omega) hbn)
  clear hbn
  have F5 := Lib.hid (And.intro hx5 hv5)
  clear hx5 hv5
  have ka0 := a.bx.c0
  have ka1 := a.bx.c1
  have la := a.bx.lt
  go_wp2_with fail
  clear ka0 ka1 la
  generalize hW : World.alloc w5 _ = V5
  have t : Ba V5 w5.heap.size (decide (z4 < 0)) A5 n5 c5 xs5 := by rw [← hW]; exact ⟨Bx.new _ _ _ _ _, hs5.on (below_new _ _)⟩
  replace a : Ba V5 (r0) (false) A n c xs := by rw [← hW]; exact a.on (below_new _ _)
  replace p : Ba V5 (r99) (decide (z3 < 0)) A99 n99 c99 xs99 := by rw [← hW]; exact p.on (below_new _ _)
  replace HB := Lib.hid (show Below r0 w V5 by rw [← hW]; exact HB.out.alloc (by have := HR.out; have := HB.out.size; omega) _)
  clear hW hs5
  generalize w5.heap.size = r5 at *
  refine (cmp_ov t.sl a.sl (ov_res t.sl.ok F5.out.1 F5.out.2 B4.out) Oa.out HD.out).mono ?_
  rintro e w6 ⟨rfl, hbn⟩
  replace a := a.on hbn
  replace p := p.on hbn
  replace t := t.on hbn
  replace HB := Lib.hid (show Below r0 w w6 from below_chain HB.out (by have := HR.out; have := HB.out.size; omega) hbn)
  clear hbn
  go_wp2_with fail
  refine (works_any _).mono ?_
  rintro e w7 ⟨rfl, hbn⟩
  replace a := a.on hbn
  replace p := p.on hbn
  replace t := t.on hbn
  replace HB := Lib.hid (show Below r0 w w7 from below_chain HB.out (by have := HR.out; have := HB.out.size; omega) hbn)
  clear hbn
  have ka0 := a.bx.c0
  have ka1 := a.bx.c1
  have la := a.bx.lt
  go_wp2_with fail
  clear ka0 ka1 la
  have C := mul_ov (neg := false) (neg' := false) a.sl a.sl
  rw [Oa.out, Z5.out, E5.out] at C
  refine C.mono ?_
  clear C
  rintro e w8 ⟨A8, n8, c8, xs8, rfl, hs8, hx8, hv8, hbn⟩
  replace a := a.on hbn
  replace p := p.on hbn
  replace t := t.on hbn
  replace HB := Lib.hid (show Below r0 w w8 from below_chain HB.out (by have := HR.out; have := HB.out.size; omega) hbn)
  clear hbn
  have F8 := Lib.hid (And.intro hx8 hv8)
  clear hx8 hv8
  go_upto_region 11 with fail
  generalize hW : World.alloc w8 _ = V8
  have m : Ba V8 w8.heap.size (decide (z5 < 0)) A8 n8 c8 xs8 := by rw [← hW]; exact ⟨Bx.new _ _ _ _ _, hs8.on (below_new _ _)⟩
  replace a : Ba V8 (r0) (false) A n c xs := by rw [← hW]; exact a.on (below_new _ _)
  replace p : Ba V8 (r99) (decide (z3 < 0)) A99 n99 c99 xs99 := by rw [← hW]; exact p.on (below_new _ _)
  replace t : Ba V8 (r5) (decide (z4 < 0)) A5 n5 c5 xs5 := by rw [← hW]; exact t.on (below_new _ _)
  replace HB := Lib.hid (show Below r0 w V8 by rw [← hW]; exact HB.out.alloc (by have := HR.out; have := HB.out.size; omega) _)
  clear hW hs8
  generalize w8.heap.size = r8 at *
  by_cases he : (e5 != 0) = true
  · go_wp2
    go_ret
    exact ⟨rfl, HR.out ▸ HB.out⟩
  replace he : (e5 != 0) = false := by simpa using he
  have km0 := m.bx.c0
  have km1 := m.bx.c1
  have lm := m.bx.lt
  go_wp2_with fail
  clear km0 km1 lm
  have C := K6.out he _ _ _ _ _ m.sl F8.out.1 F8.out.2
  refine C.mono ?_
  clear C
  rintro e w9 ⟨A9, n9, c9, xs9, rfl, hs9, hx9, hv9, hbn⟩
  replace a := a.on hbn
  replace p := p.on hbn
  replace t := t.on hbn
  replace m := m.on hbn
  replace HB := Lib.hid (show Below r0 w w9 from below_chain HB.out (by have := HR.out; have := HB.out.size; omega) hbn)
  clear hbn
  have F9 := Lib.hid (And.intro hx9 hv9)
  clear hx9 hv9
  have ka0 := a.bx.c0
  have ka1 := a.bx.c1
  have la := a.bx.lt
  go_wp2_with fail
  clear ka0 ka1 la
  generalize hW : World.alloc w9 _ = V9
  have y : Ba V9 w9.heap.size (decide (va < 0)) A9 n9 c9 xs9 := by rw [← hW]; exact ⟨Bx.new _ _ _ _ _, hs9.on (below_new _ _)⟩
  replace a : Ba V9 (r0) (false) A n c xs := by rw [← hW]; exact a.on (below_new _ _)
  replace p : Ba V9 (r99) (decide (z3 < 0)) A99 n99 c99 xs99 := by rw [← hW]; exact p.on (below_new _ _)
  replace t : Ba V9 (r5) (decide (z4 < 0)) A5 n5 c5 xs5 := by rw [← hW]; exact t.on (below_new _ _)
  replace m : Ba V9 (r8) (decide (z5 < 0)) A8 n8 c8 xs8 := by rw [← hW]; exact m.on (below_new _ _)
  replace HB := Lib.hid (show Below r0 w V9 by rw [← hW]; exact HB.out.alloc (by have := HR.out; have := HB.out.size; omega) _)
  clear hW hs9
  generalize w9.heap.size = r9 at *
  refine (lsame_yes _ _ _ _ _ _ _ _ _ _ _ y.sl a.sl (ov_sign Oa.out) (uniq y.sl.ok a.sl.ok F9.out.1 (ov_parts Oa.out).1 (by rw [F9.out.2, (ov_parts Oa.out).2.1]))).mono ?_
  rintro e w10 ⟨rfl, hbn⟩
  replace a := a.on hbn
  replace p := p.on hbn
  replace t := t.on hbn
  replace m := m.on hbn
  replace y := y.on hbn
  replace HB := Lib.hid (show Below r0 w w10 from below_chain HB.out (by have := HR.out; have := HB.out.size; omega) hbn)
  clear hbn
  go_wp2
  go_ret
  exact ⟨rfl, HR.out ▸ HB.out⟩


set_option maxRecDepth 20000 in
set_option maxHeartbeats 4000000 in
theorem squares_c (A : Option Addr) (n c : Nat) (xs : List Nat) (w : World) (h : Sl w w.heap.size A n c xs) (va z1 z2 o z3 z4 dd z5 e5 : Int) (hv : vld false xs = true) (Oa : Hid (ov false xs = some va))
    (K1 : Hid (∀ w : World, Sl w w.heap.size A n c xs → Calls Try.prog 37 #[.agg #[.bool false, .slice A n c]] w (RetSq z1 false 0 w))) (B1 : Hid (z1.natAbs < BIG))
    (Z2 : Hid (o2Z (· * ·) (some z1) (some z1) = z2)) (E2 : Hid (o2E (· * ·) (some z1) (some z1) = 0)) (B2 : Hid (z2.natAbs < BIG)) (HC : Hid (Int.sign (z2 - va) = (-1)))
    (KO : Hid (∀ w : World, Calls Try.prog 18 #[.int .i64 1] w (RetI o w))) (BO : Hid (o.natAbs < BIG))
    (Z3 : Hid (o2Z (· + ·) (some z1) (some o) = z3)) (E3 : Hid (o2E (· + ·) (some z1) (some o) = 0)) (B3 : Hid (z3.natAbs < BIG))
    (Z4 : Hid (o2Z (· * ·) (some z3) (some z3) = z4)) (E4 : Hid (o2E (· * ·) (some z3) (some z3) = 2)) (B4 : Hid (z4.natAbs < BIG)) (HD : Hid (Int.sign (z4 - va) = dd))
    (Z5 : Hid (o2Z (· * ·) (some va) (some va) = z5)) (E5 : Hid (o2E (· * ·) (some va) (some va) = e5))
    (K6 : Hid ((e5 != 0) = false → ∀ (w : World) (A : Option Addr) (n c : Nat) (zs : List Nat), Sl w w.heap.size A n c zs → Nz zs → val zs = z5.natAbs → Calls Try.prog 37 #[.agg #[.bool (decide (z5 < 0)), .slice A n c]] w (RetSq va true 0 w))) :
    Calls Try.prog 14 #[.agg #[.bool false, .slice A n c]] w (fun e w' => e = .returned (.bool true) ∧ Below w.heap.size w w') := by
  go_enter Try.func14, Try.ntmps14
  go_wp2_with fail
  generalize hW : World.alloc w _ = V
  obtain ⟨hb, a⟩ := lone_box false A n c xs w V h hW
  have HB := Lib.hid hb
  clear hW hb h
  generalize hr0 : w.heap.size = r0 at *
  have HR := Lib.hid hr0
  clear hr0
  have ka0 := a.bx.c0
  have ka1 := a.bx.c1
  have la := a.bx.lt
  go_wp2_with fail
  clear ka0 ka1 la
  refine (rvalid_any _ _ _ _ _ xs _ a.sl (Nat.le_refl _)).mono ?_
  rintro e w1 ⟨rfl, hbn⟩
  replace a := a.on hbn
  replace HB := Lib.hid (show Below r0 w w1 from below_chain HB.out (by have := HR.out; have := HB.out.size; omega) hbn)
  clear hbn
  rw [hv]
  have ka0 := a.bx.c0
  have ka1 := a.bx.c1
  have la := a.bx.lt
  go_wp2_with fail
  clear ka0 ka1 la
  have C := K1.out _ a.sl
  refine C.mono ?_
  clear C
  rintro e w2 ⟨A2, n2, c2, xs2, rfl, hs2, hx2, hv2, hbn⟩
  replace a := a.on hbn
  replace HB := Lib.hid (show Below r0 w w2 from below_chain HB.out (by have := HR.out; have := HB.out.size; omega) hbn)
  clear hbn
  have F2 := Lib.hid (And.intro hx2 hv2)
  clear hx2 hv2
  go_wp2_with fail
  generalize hW : World.alloc w2 _ = V2
  have x : Ba V2 w2.heap.size (decide (z1 < 0)) A2 n2 c2 xs2 := by rw [← hW]; exact ⟨Bx.new _ _ _ _ _, hs2.on (below_new _ _)⟩
  replace a : Ba V2 (r0) (false) A n c xs := by rw [← hW]; exact a.on (below_new _ _)
  replace HB := Lib.hid (show Below r0 w V2 by rw [← hW]; exact HB.out.alloc (by have := HR.out; have := HB.out.size; omega) _)
  clear hW hs2
  generalize w2.heap.size = r2 at *
  have C := mul_ov (neg := decide (z1 < 0)) (neg' := decide (z1 < 0)) x.sl x.sl
  rw [ov_res x.sl.ok F2.out.1 F2.out.2 B1.out, Z2.out, E2.out] at C
  refine C.mono ?_
  clear C
  rintro e w3 ⟨A3, n3, c3, xs3, rfl, hs3, hx3, hv3, hbn⟩
  replace a := a.on hbn
  replace x := x.on hbn
  replace HB := Lib.hid (show Below r0 w w3 from below_chain HB.out (by have := HR.out; have := HB.out.size; omega) hbn)
  clear hbn
  have F3 := Lib.hid (And.intro hx3 hv3)
  clear hx3 hv3
  have ka0 := a.bx.c0
  have ka1 := a.bx.c1
  have la := a.bx.lt
  go_wp2_with fail
  clear ka0 ka1 la
  generalize hW : World.alloc w3 _ = V3
  have s : Ba V3 w3.heap.size (decide (z2 < 0)) A3 n3 c3 xs3 := by rw [← hW]; exact ⟨Bx.new _ _ _ _ _, hs3.on (below_new _ _)⟩
  replace a : Ba V3 (r0) (false) A n c xs := by rw [← hW]; exact a.on (below_new _ _)
  replace x : Ba V3 (r2) (decide (z1 < 0)) A2 n2 c2 xs2 := by rw [← hW]; exact x.on (below_new _ _)
  replace HB := Lib.hid (show Below r0 w V3 by rw [← hW]; exact HB.out.alloc (by have := HR.out; have := HB.out.size; omega) _)
  clear hW hs3
  generalize w3.heap.size = r3 at *
  refine (cmp_ov s.sl a.sl (ov_res s.sl.ok F3.out.1 F3.out.2 B2.out) Oa.out HC.out).mono ?_
  rintro e w4 ⟨rfl, hbn⟩
  replace a := a.on hbn
  replace x := x.on hbn
  replace s := s.on hbn
  replace HB := Lib.hid (show Below r0 w w4 from below_chain HB.out (by have := HR.out; have := HB.out.size; omega) hbn)
  clear hbn
  clear s
  go_upto_region 6 with fail
  go_cut [10, 11] (fun s10 s11 wx => SqMid r0 w false A n c xs r2 (decide (z1 < 0)) A2 n2 c2 xs2 z3 s10 s11 wx)
  case first =>
    have a0 := a.drew
    have x0 := x.drew
    have B : Below r0 w w4.drew := HB.out.drew
    have na := Nat.ne_of_lt a.bx.lt
    have nx := Nat.ne_of_lt x.bx.lt
    have ge0 : r0 ≤ w4.heap.size := by have := HR.out; have := HB.out.size; omega
    have o0 := x.bx.c0
    have o1 := x.bx.c1
    have m0 := World.new_ne _ _ o0
    clear HB a x
    have p0 := x0.bx.c0
    have p1 := x0.bx.c1
    have q0 := World.new_ne _ _ p0
    have q1 := World.new_ne _ _ p1
    have G0 := Lib.hid (And.intro na (And.intro nx ge0))
    clear na nx ge0
    go_region_held3 (fun w' => w'.cell? ⟨r2, 0, none⟩ = some (.bool (decide (z1 < 0))) ∧ w'.cell? ⟨r2, 1, none⟩ = some (.slice A2 n2 c2))
      (first | exact ⟨p0, p1⟩ | go_keep)
      (first
        | (go_at_call 18
           refine (KO.out _).mono ?_
           rintro e v1 ⟨AO, nO, cO, xsO, rfl, hsO, hxO, hvO, hbn⟩
           have FO := Lib.hid (And.intro hxO hvO)
           first
           | (have hb1 : Below w4.drew.heap.size w4.drew v1 := ⟨hbn.os, hbn.tape, hbn.output, hbn.size, hbn.block⟩
              have a1 := a0.on hb1
              have x1 := x0.on hb1
              have D1 := below_chain B G0.out.2.2 hb1)
           | (have hb1 : Below (w4.drew.alloc (.cells #[.bool false, .slice none 0 0] 24)).heap.size (w4.drew.alloc (.cells #[.bool false, .slice none 0 0] 24)) v1 := ⟨hbn.os, hbn.tape, hbn.output, hbn.size, hbn.block⟩
              have bn : Bx v1 w4.heap.size false none 0 0 := (Bx.new w4.drew false none 0 0).below hb1 (by simp)
              have a1 := (a0.on (below_new _ _)).on hb1
              have x1 := (x0.on (below_new _ _)).on hb1
              have D1 := below_chain (below_chain B G0.out.2.2 (below_new _ _)) (Nat.le_trans G0.out.2.2 (by simp)) hb1)
           have na1 := Nat.ne_of_lt a1.bx.lt
           have nx1 := Nat.ne_of_lt x1.bx.lt
           have ge1 : r0 ≤ v1.heap.size := by have := HR.out; have := D1.size; omega
           have G1 := Lib.hid (And.intro na1 (And.intro nx1 ge1))
           clear hbn hxO hvO hb1 p0 p1 q0 q1 o0 o1 m0 B na1 nx1 ge1
           have p0 := x1.bx.c0
           have p1 := x1.bx.c1
           have q0 := World.new_ne _ _ p0
           have q1 := World.new_ne _ _ p1)
        | (go_at_call 25
           first
           | (have C := add_ov (neg := decide (z1 < 0)) (neg' := decide (o < 0)) x1.sl hsO
              rw [ov_res x1.sl.ok F2.out.1 F2.out.2 B1.out, ov_res hsO.ok FO.out.1 FO.out.2 BO.out, Z3.out, E3.out] at C
              refine C.mono ?_
              clear C
              rintro e v2 ⟨A90, n90, c90, xs90, rfl, hs90, hx90, hv90, hbn⟩
              have a2 := a1.on hbn
              have x2 := x1.on hbn
              have D2 := below_chain D1 G1.out.2.2 hbn
              have nq := G0.out.2.1.symm
              try replace bn := bn.below hbn bn.lt)
           | (have be := below_new v1 (.cells #[.bool false, .slice none 0 0] 24)
              have bn := Bx.new v1 false none 0 0
              have C := add_ov (neg := decide (z1 < 0)) (neg' := decide (o < 0)) (x1.on be).sl (hsO.on be)
              rw [ov_res x1.sl.ok F2.out.1 F2.out.2 B1.out, ov_res hsO.ok FO.out.1 FO.out.2 BO.out, Z3.out, E3.out] at C
              refine C.mono ?_
              clear C
              rintro e v2 ⟨A90, n90, c90, xs90, rfl, hs90, hx90, hv90, hbn⟩
              have a2 := (a1.on be).on hbn
              have x2 := (x1.on be).on hbn
              have D2 := below_chain (below_chain D1 G1.out.2.2 be) (Nat.le_trans G1.out.2.2 be.size) hbn
              have nq := G1.out.2.1.symm
              replace bn := bn.below hbn bn.lt
              clear be)
           have F90 := Lib.hid (And.intro hx90 hv90)
           clear p0 p1 q0 q1 hbn hx90 hv90
           have na2 := Nat.ne_of_lt a2.bx.lt
           have nx2 := Nat.ne_of_lt x2.bx.lt
           have ge2 : r0 ≤ v2.heap.size := by have := HR.out; have := D2.size; omega
           have G2 := Lib.hid (And.intro na2 (And.intro nx2 ge2))
           clear na2 nx2 ge2
           have p0 := x2.bx.c0
           have p1 := x2.bx.c1
           have q0 := World.new_ne _ _ p0
           have q1 := World.new_ne _ _ p1
           try
             have t0 := bn.c0
             have t1 := bn.c1
             have t2 := bn.f 0
             have t3 := bn.f 1
             have bb : Ba v2 _ false none 0 0 [] := ⟨bn, Sl.nil _ _⟩
             clear bn))
    all_goals (go_wp2_with fail; go_meet; first
      | exact sqMid_new a2 x2 D2 G2.out.2.2 hs90 F90.out
      | exact sqMid_old bb.bx a2 x2 G0.out.1 G0.out.2.1 D2 G0.out.2.2 hs90 F90.out
      | exact sqMid_old bb.bx a2 x2 G1.out.1 G1.out.2.1 D2 G1.out.2.2 hs90 F90.out)
  case rest =>
  obtain ⟨r99, A99, n99, c99, xs99, rfl, rfl, p, F99', a, x, hb⟩ := hcut
  have HB := Lib.hid hb
  have F99 := Lib.hid F99'
  clear hb F99' x
  have kp0 := p.bx.c0
  have kp1 := p.bx.c1
  have lp := p.bx.lt
  go_wp2_with fail
  clear kp0 kp1 lp
  have C := mul_ov (neg := decide (z3 < 0)) (neg' := decide (z3 < 0)) p.sl p.sl
  rw [ov_res p.sl.ok F99.out.1 F99.out.2 B3.out, Z4.out, E4.out] at C
  refine C.mono ?_
  clear C
  rintro e w5 ⟨A5, n5, c5, xs5, rfl, hs5, hx5, hv5, hbn⟩
  replace a := a.on hbn
  replace p := p.on hbn
  replace HB := Lib.hid (show Below r0 w w5 from below_chain HB.out (by have := HR.out; have := HB.out.size; omega) hbn)
  clear hbn
  have F5 := Lib.hid (And.intro hx5 hv5)
  clear hx5 hv5
  have ka0 := a.bx.c0
  have ka1 := a.bx.c1
  have la := a.bx.lt
  go_wp2_with fail
  clear ka0 ka1 la
  generalize hW : World.alloc w5 _ = V5
  have t : Ba V5 w5.heap.size (decide (z4 < 0)) A5 n5 c5 xs5 := by rw [← hW]; exact ⟨Bx.new _ _ _ _ _, hs5.on (below_new _ _)⟩
  replace a : Ba V5 (r0) (false) A n c xs := by rw [← hW]; exact a.on (below_new _ _)
  replace p : Ba V5 (r99) (decide (z3 < 0)) A99 n99 c99 xs99 := by rw [← hW]; exact p.on (below_new _ _)
  replace HB := Lib.hid (show Below r0 w V5 by rw [← hW]; exact HB.out.alloc (by have := HR.out; have := HB.out.size; omega) _)
  clear hW hs5
  generalize w5.heap.size = r5 at *
  refine (cmp_ov t.sl a.sl (ov_res t.sl.ok F5.out.1 F5.out.2 B4.out) Oa.out HD.out).mono ?_
  rintro e w6 ⟨rfl, hbn⟩
  replace a := a.on hbn
  replace p := p.on hbn
  replace t := t.on hbn
  replace HB := Lib.hid (show Below r0 w w6 from below_chain HB.out (by have := HR.out; have := HB.out.size; omega) hbn)
  clear hbn
  go_wp2_with fail
  refine (works_any _).mono ?_
  rintro e w7 ⟨rfl, hbn⟩
  replace a := a.on hbn
  replace p := p.on hbn
  replace t := t.on hbn
  replace HB := Lib.hid (show Below r0 w w7 from below_chain HB.out (by have := HR.out; have := HB.out.size; omega) hbn)
  clear hbn
  have ka0 := a.bx.c0
  have ka1 := a.bx.c1
  have la := a.bx.lt
  go_wp2_with fail
  clear ka0 ka1 la
  have C := mul_ov (neg := false) (neg' := false) a.sl a.sl
  rw [Oa.out, Z5.out, E5.out] at C
  refine C.mono ?_
  clear C
  rintro e w8 ⟨A8, n8, c8, xs8, rfl, hs8, hx8, hv8, hbn⟩
  replace a := a.on hbn
  replace p := p.on hbn
  replace t := t.on hbn
  replace HB := Lib.hid (show Below r0 w w8 from below_chain HB.out (by have := HR.out; have := HB.out.size; omega) hbn)
  clear hbn
  have F8 := Lib.hid (And.intro hx8 hv8)
  clear hx8 hv8
  go_upto_region 11 with fail
  generalize hW : World.alloc w8 _ = V8
  have m : Ba V8 w8.heap.size (decide (z5 < 0)) A8 n8 c8 xs8 := by rw [← hW]; exact ⟨Bx.new _ _ _ _ _, hs8.on (below_new _ _)⟩
  replace a : Ba V8 (r0) (false) A n c xs := by rw [← hW]; exact a.on (below_new _ _)
  replace p : Ba V8 (r99) (decide (z3 < 0)) A99 n99 c99 xs99 := by rw [← hW]; exact p.on (below_new _ _)
  replace t : Ba V8 (r5) (decide (z4 < 0)) A5 n5 c5 xs5 := by rw [← hW]; exact t.on (below_new _ _)
  replace HB := Lib.hid (show Below r0 w V8 by rw [← hW]; exact HB.out.alloc (by have := HR.out; have := HB.out.size; omega) _)
  clear hW hs8
  generalize w8.heap.size = r8 at *
  by_cases he : (e5 != 0) = true
  · go_wp2
    go_ret
    exact ⟨rfl, HR.out ▸ HB.out⟩
  replace he : (e5 != 0) = false := by simpa using he
  have km0 := m.bx.c0
  have km1 := m.bx.c1
  have lm := m.bx.lt
  go_wp2_with fail
  clear km0 km1 lm
  have C := K6.out he _ _ _ _ _ m.sl F8.out.1 F8.out.2
  refine C.mono ?_
  clear C
  rintro e w9 ⟨A9, n9, c9, xs9, rfl, hs9, hx9, hv9, hbn⟩
  replace a := a.on hbn
  replace p := p.on hbn
  replace t := t.on hbn
  replace m := m.on hbn
  replace HB := Lib.hid (show Below r0 w w9 from below_chain HB.out (by have := HR.out; have := HB.out.size; omega) hbn)
  clear hbn
  have F9 := Lib.hid (And.intro hx9 hv9)
  clear hx9 hv9
  have ka0 := a.bx.c0
  have ka1 := a.bx.c1
  have la := a.bx.lt
  go_wp2_with fail
  clear ka0 ka1 la
  generalize hW : World.alloc w9 _ = V9
  have y : Ba V9 w9.heap.size (decide (va < 0)) A9 n9 c9 xs9 := by rw [← hW]; exact ⟨Bx.new _ _ _ _ _, hs9.on (below_new _ _)⟩
  replace a : Ba V9 (r0) (false) A n c xs := by rw [← hW]; exact a.on (below_new _ _)
  replace p : Ba V9 (r99) (decide (z3 < 0)) A99 n99 c99 xs99 := by rw [← hW]; exact p.on (below_new _ _)
  replace t : Ba V9 (r5) (decide (z4 < 0)) A5 n5 c5 xs5 := by rw [← hW]; exact t.on (below_new _ _)
  replace m : Ba V9 (r8) (decide (z5 < 0)) A8 n8 c8 xs8 := by rw [← hW]; exact m.on (below_new _ _)
  replace HB := Lib.hid (show Below r0 w V9 by rw [← hW]; exact HB.out.alloc (by have := HR.out; have := HB.out.size; omega) _)
  clear hW hs9
  generalize w9.heap.size = r9 at *
  refine (lsame_yes _ _ _ _ _ _ _ _ _ _ _ y.sl a.sl (ov_sign Oa.out) (uniq y.sl.ok a.sl.ok F9.out.1 (ov_parts Oa.out).1 (by rw [F9.out.2, (ov_parts Oa.out).2.1]))).mono ?_
  rintro e w10 ⟨rfl, hbn⟩
  replace a := a.on hbn
  replace p := p.on hbn
  replace t := t.on hbn
  replace m := m.on hbn
  replace y := y.on hbn
  replace HB := Lib.hid (show Below r0 w w10 from below_chain HB.out (by have := HR.out; have := HB.out.size; omega) hbn)
  clear hbn
  go_wp2
  go_ret
  exact ⟨rfl, HR.out ▸ HB.out⟩


set_option maxRecDepth 20000 in
set_option maxHeartbeats 4000000 in
theorem squares_d (A : Option Addr) (n c : Nat) (xs : List Nat) (w : World) (h : Sl w w.heap.size A n c xs) (va z1 z2 o z3 z4 z5 e5 : Int) (hv : vld false xs = true) (Oa : Hid (ov false xs = some va))
    (K1 : Hid (∀ w : World, Sl w w.heap.size A n c xs → Calls Try.prog 37 #[.agg #[.bool false, .slice A n c]] w (RetSq z1 false 0 w))) (B1 : Hid (z1.natAbs < BIG))
    (Z2 : Hid (o2Z (· * ·) (some z1) (some z1) = z2)) (E2 : Hid (o2E (· * ·) (some z1) (some z1) = 0)) (B2 : Hid (z2.natAbs < BIG)) (HC : Hid (Int.sign (z2 - va) = (-1)))
    (KO : Hid (∀ w : World, Calls Try.prog 18 #[.int .i64 1] w (RetI o w))) (BO : Hid (o.natAbs < BIG))
    (Z3 : Hid (o2Z (· + ·) (some z1) (some o) = z3)) (E3 : Hid (o2E (· + ·) (some z1) (some o) = 0)) (B3 : Hid (z3.natAbs < BIG))
    (Z4 : Hid (o2Z (· * ·) (some z3) (some z3) = z4)) (E4 : Hid (o2E (· * ·) (some z3) (some z3) = 0)) (B4 : Hid (z4.natAbs < BIG)) (HD : Hid (Int.sign (z4 - va) = 1))
    (Z5 : Hid (o2Z (· * ·) (some va) (some va) = z5)) (E5 : Hid (o2E (· * ·) (some va) (some va) = e5))
    (K6 : Hid ((e5 != 0) = false → ∀ (w : World) (A : Option Addr) (n c : Nat) (zs : List Nat), Sl w w.heap.size A n c zs → Nz zs → val zs = z5.natAbs → Calls Try.prog 37 #[.agg #[.bool (decide (z5 < 0)), .slice A n c]] w (RetSq va true 0 w))) :
    Calls Try.prog 14 #[.agg #[.bool false, .slice A n c]] w (fun e w' => e = .returned (.bool true) ∧ Below w.heap.size w w') := by
  go_enter Try.func14, Try.ntmps14
  go_wp2_with fail
  generalize hW : World.alloc w _ = V
  obtain ⟨hb, a⟩ := lone_box false A n c xs w V h hW
  have HB := Lib.hid hb
  clear hW hb h
  generalize hr0 : w.heap.size = r0 at *
  have HR := Lib.hid hr0
  clear hr0
  have ka0 := a.bx.c0
  have ka1 := a.bx.c1
  have la := a.bx.lt
  go_wp2_with fail
  clear ka0 ka1 la
  refine (rvalid_any _ _ _ _ _ xs _ a.sl (Nat.le_refl _)).mono ?_
  rintro e w1 ⟨rfl, hbn⟩
  replace a := a.on hbn
  replace HB := Lib.hid (show Below r0 w w1 from below_chain HB.out (by have := HR.out; have := HB.out.size; omega) hbn)
  clear hbn
  rw [hv]
  have ka0 := a.bx.c0
  have ka1 := a.bx.c1
  have la := a.bx.lt
  go_wp2_with fail
  clear ka0 ka1 la
  have C := K1.out _ a.sl
  refine C.mono ?_
  clear C
  rintro e w2 ⟨A2, n2, c2, xs2, rfl, hs2, hx2, hv2, hbn⟩
  replace a := a.on hbn
  replace HB := Lib.hid (show Below r0 w w2 from below_chain HB.out (by have := HR.out; have := HB.out.size; omega) hbn)
  clear hbn
  have F2 := Lib.hid (And.intro hx2 hv2)
  clear hx2 hv2
  go_wp2_with fail
  generalize hW : World.alloc w2 _ = V2
  have x : Ba V2 w2.heap.size (decide (z1 < 0)) A2 n2 c2 xs2 := by rw [← hW]; exact ⟨Bx.new _ _ _ _ _, hs2.on (below_new _ _)⟩
  replace a : Ba V2 (r0) (false) A n c xs := by rw [← hW]; exact a.on (below_new _ _)
  replace HB := Lib.hid (show Below r0 w V2 by rw [← hW]; exact HB.out.alloc (by have := HR.out; have := HB.out.size; omega) _)
  clear hW hs2
  generalize w2.heap.size = r2 at *
  have C := mul_ov (neg := decide (z1 < 0)) (neg' := decide (z1 < 0)) x.sl x.sl
  rw [ov_res x.sl.ok F2.out.1 F2.out.2 B1.out, Z2.out, E2.out] at C
  refine C.mono ?_
  clear C
  rintro e w3 ⟨A3, n3, c3, xs3, rfl, hs3, hx3, hv3, hbn⟩
  replace a := a.on hbn
  replace x := x.on hbn
  replace HB := Lib.hid (show Below r0 w w3 from below_chain HB.out (by have := HR.out; have := HB.out.size; omega) hbn)
  clear hbn
  have F3 := Lib.hid (And.intro hx3 hv3)
  clear hx3 hv3
  have ka0 := a.bx.c0
  have ka1 := a.bx.c1
  have la := a.bx.lt
  go_wp2_with fail
  clear ka0 ka1 la
  generalize hW : World.alloc w3 _ = V3
  have s : Ba V3 w3.heap.size (decide (z2 < 0)) A3 n3 c3 xs3 := by rw [← hW]; exact ⟨Bx.new _ _ _ _ _, hs3.on (below_new _ _)⟩
  replace a : Ba V3 (r0) (false) A n c xs := by rw [← hW]; exact a.on (below_new _ _)
  replace x : Ba V3 (r2) (decide (z1 < 0)) A2 n2 c2 xs2 := by rw [← hW]; exact x.on (below_new _ _)
  replace HB := Lib.hid (show Below r0 w V3 by rw [← hW]; exact HB.out.alloc (by have := HR.out; have := HB.out.size; omega) _)
  clear hW hs3
  generalize w3.heap.size = r3 at *
  refine (cmp_ov s.sl a.sl (ov_res s.sl.ok F3.out.1 F3.out.2 B2.out) Oa.out HC.out).mono ?_
  rintro e w4 ⟨rfl, hbn⟩
  replace a := a.on hbn
  replace x := x.on hbn
  replace s := s.on hbn
  replace HB := Lib.hid (show Below r0 w w4 from below_chain HB.out (by have := HR.out; have := HB.out.size; omega) hbn)
  clear hbn
  clear s
  go_upto_region 6 with fail
  go_cut [10, 11] (fun s10 s11 wx => SqMid r0 w false A n c xs r2 (decide (z1 < 0)) A2 n2 c2 xs2 z3 s10 s11 wx)
  case first =>
    have a0 := a.drew
    have x0 := x.drew
    have B : Below r0 w w4.drew := HB.out.drew
    have na := Nat.ne_of_lt a.bx.lt
    have nx := Nat.ne_of_lt x.bx.lt
    have ge0 : r0 ≤ w4.heap.size := by have := HR.out; have := HB.out.size; omega
    have o0 := x.bx.c0
    have o1 := x.bx.c1
    have m0 := World.new_ne _ _ o0
    clear HB a x
    have p0 := x0.bx.c0
    have p1 := x0.bx.c1
    have q0 := World.new_ne _ _ p0
    have q1 := World.new_ne _ _ p1
    have G0 := Lib.hid (And.intro na (And.intro nx ge0))
    clear na nx ge0
    go_region_held3 (fun w' => w'.cell? ⟨r2, 0, none⟩ = some (.bool (decide (z1 < 0))) ∧ w'.cell? ⟨r2, 1, none⟩ = some (.slice A2 n2 c2))
      (first | exact ⟨p0, p1⟩ | go_keep)
      (first
        | (go_at_call 18
           refine (KO.out _).mono ?_
           rintro e v1 ⟨AO, nO, cO, xsO, rfl, hsO, hxO, hvO, hbn⟩
           have FO := Lib.hid (And.intro hxO hvO)
           first
           | (have hb1 : Below w4.drew.heap.size w4.drew v1 := ⟨hbn.os, hbn.tape, hbn.output, hbn.size, hbn.block⟩
              have a1 := a0.on hb1
              have x1 := x0.on hb1
              have D1 := below_chain B G0.out.2.2 hb1)
           | (have hb1 : Below (w4.drew.alloc (.cells #[.bool false, .slice none 0 0] 24)).heap.size (w4.drew.alloc (.cells #[.bool false, .slice none 0 0] 24)) v1 := ⟨hbn.os, hbn.tape, hbn.output, hbn.size, hbn.block⟩
              have bn : Bx v1 w4.heap.size false none 0 0 := (Bx.new w4.drew false none 0 0).below hb1 (by simp)
              have a1 := (a0.on (below_new _ _)).on hb1
              have x1 := (x0.on (below_new _ _)).on hb1
              have D1 := below_chain (below_chain B G0.out.2.2 (below_new _ _)) (Nat.le_trans G0.out.2.2 (by simp)) hb1)
           have na1 := Nat.ne_of_lt a1.bx.lt
           have nx1 := Nat.ne_of_lt x1.bx.lt
           have ge1 : r0 ≤ v1.heap.size := by have := HR.out; have := D1.size; omega
           have G1 := Lib.hid (And.intro na1 (And.intro nx1 ge1))
           clear hbn hxO hvO hb1 p0 p1 q0 q1 o0 o1 m0 B na1 nx1 ge1
           have p0 := x1.bx.c0
           have p1 := x1.bx.c1
           have q0 := World.new_ne _ _ p0
           have q1 := World.new_ne _ _ p1)
        | (go_at_call 25
           first
           | (have C := add_ov (neg := decide (z1 < 0)) (neg' := decide (o < 0)) x1.sl hsO
              rw [ov_res x1.sl.ok F2.out.1 F2.out.2 B1.out, ov_res hsO.ok FO.out.1 FO.out.2 BO.out, Z3.out, E3.out] at C
              refine C.mono ?_
              clear C
              rintro e v2 ⟨A90, n90, c90, xs90, rfl, hs90, hx90, hv90, hbn⟩
              have a2 := a1.on hbn
              have x2 := x1.on hbn
              have D2 := below_chain D1 G1.out.2.2 hbn
              have nq := G0.out.2.1.symm
              try replace bn := bn.below hbn bn.lt)
           | (have be := below_new v1 (.cells #[.bool false, .slice none 0 0] 24)
              have bn := Bx.new v1 false none 0 0
              have C := add_ov (neg := decide (z1 < 0)) (neg' := decide (o < 0)) (x1.on be).sl (hsO.on be)
              rw [ov_res x1.sl.ok F2.out.1 F2.out.2 B1.out, ov_res hsO.ok FO.out.1 FO.out.2 BO.out, Z3.out, E3.out] at C
              refine C.mono ?_
              clear C
              rintro e v2 ⟨A90, n90, c90, xs90, rfl, hs90, hx90, hv90, hbn⟩
              have a2 := (a1.on be).on hbn
              have x2 := (x1.on be).on hbn
              have D2 := below_chain (below_chain D1 G1.out.2.2 be) (Nat.le_trans G1.out.2.2 be.size) hbn
              have nq := G1.out.2.1.symm
              replace bn := bn.below hbn bn.lt
              clear be)
           have F90 := Lib.hid (And.intro hx90 hv90)
           clear p0 p1 q0 q1 hbn hx90 hv90
           have na2 := Nat.ne_of_lt a2.bx.lt
           have nx2 := Nat.ne_of_lt x2.bx.lt
           have ge2 : r0 ≤ v2.heap.size := by have := HR.out; have := D2.size; omega
           have G2 := Lib.hid (And.intro na2 (And.intro nx2 ge2))
           clear na2 nx2 ge2
           have p0 := x2.bx.c0
           have p1 := x2.bx.c1
           have q0 := World.new_ne _ _ p0
           have q1 := World.new_ne _ _ p1
           try
             have t0 := bn.c0
             have t1 := bn.c1
             have t2 := bn.f 0
             have t3 := bn.f 1
             have bb : Ba v2 _ false none 0 0 [] := ⟨bn, Sl.nil _ _⟩
             clear bn))
    all_goals (go_wp2_with fail; go_meet; first
      | exact sqMid_new a2 x2 D2 G2.out.2.2 hs90 F90.out
      | exact sqMid_old bb.bx a2 x2 G0.out.1 G0.out.2.1 D2 G0.out.2.2 hs90 F90.out
      | exact sqMid_old bb.bx a2 x2 G1.out.1 G1.out.2.1 D2 G1.out.2.2 hs90 F90.out)
  case rest =>
  obtain ⟨r99, A99, n99, c99, xs99, rfl, rfl, p, F99', a, x, hb⟩ := hcut
  have HB := Lib.hid hb
  have F99 := Lib.hid F99'
  clear hb F99' x
  have kp0 := p.bx.c0
  have kp1 := p.bx.c1
  have lp := p.bx.lt
  go_wp2_with fail
  clear kp0 kp1 lp
  have C := mul_ov (neg := decide (z3 < 0)) (neg' := decide (z3 < 0)) p.sl p.sl
  rw [ov_res p.sl.ok F99.out.1 F99.out.2 B3.out, Z4.out, E4.out] at C
  refine C.mono ?_
  clear C
  rintro e w5 ⟨A5, n5, c5, xs5, rfl, hs5, hx5, hv5, hbn⟩
  replace a := a.on hbn
  replace p := p.on hbn
  replace HB := Lib.hid (show Below r0 w w5 from below_chain HB.out (by have := HR.out; have := HB.out.size; omega) hbn)
  clear hbn
  have F5 := Lib.hid (And.intro hx5 hv5)
  clear hx5 hv5
  have ka0 := a.bx.c0
  have ka1 := a.bx.c1
  have la := a.bx.lt
  go_wp2_with fail
  clear ka0 ka1 la
  generalize hW : World.alloc w5 _ = V5
  have t : Ba V5 w5.heap.size (decide (z4 < 0)) A5 n5 c5 xs5 := by rw [← hW]; exact ⟨Bx.new _ _ _ _ _, hs5.on (below_new _ _)⟩
  replace a : Ba V5 (r0) (false) A n c xs := by rw [← hW]; exact a.on (below_new _ _)
  replace p : Ba V5 (r99) (decide (z3 < 0)) A99 n99 c99 xs99 := by rw [← hW]; exact p.on (below_new _ _)
  replace HB := Lib.hid (show Below r0 w V5 by rw [← hW]; exact HB.out.alloc (by have := HR.out; have := HB.out.size; omega) _)
  clear hW hs5
  generalize w5.heap.size = r5 at *
  refine (cmp_ov t.sl a.sl (ov_res t.sl.ok F5.out.1 F5.out.2 B4.out) Oa.out HD.out).mono ?_
  rintro e w6 ⟨rfl, hbn⟩
  replace a := a.on hbn
  replace p := p.on hbn
  replace t := t.on hbn
  replace HB := Lib.hid (show Below r0 w w6 from below_chain HB.out (by have := HR.out; have := HB.out.size; omega) hbn)
  clear hbn
  go_wp2_with fail
  refine (works_any _).mono ?_
  rintro e w7 ⟨rfl, hbn⟩
  replace a := a.on hbn
  replace p := p.on hbn
  replace t := t.on hbn
  replace HB := Lib.hid (show Below r0 w w7 from below_chain HB.out (by have := HR.out; have := HB.out.size; omega) hbn)
  clear hbn
  have ka0 := a.bx.c0
  have ka1 := a.bx.c1
  have la := a.bx.lt
  go_wp2_with fail
  clear ka0 ka1 la
  have C := mul_ov (neg := false) (neg' := false) a.sl a.sl
  rw [Oa.out, Z5.out, E5.out] at C
  refine C.mono ?_
  clear C
  rintro e w8 ⟨A8, n8, c8, xs8, rfl, hs8, hx8, hv8, hbn⟩
  replace a := a.on hbn
  replace p := p.on hbn
  replace t := t.on hbn
  replace HB := Lib.hid (show Below r0 w w8 from below_chain HB.out (by have := HR.out; have := HB.out.size; omega) hbn)
  clear hbn
  have F8 := Lib.hid (And.intro hx8 hv8)
  clear hx8 hv8
  go_upto_region 11 with fail
  generalize hW : World.alloc w8 _ = V8
  have m : Ba V8 w8.heap.size (decide (z5 < 0)) A8 n8 c8 xs8 := by rw [← hW]; exact ⟨Bx.new _ _ _ _ _, hs8.on (below_new _ _)⟩
  replace a : Ba V8 (r0) (false) A n c xs := by rw [← hW]; exact a.on (below_new _ _)
  replace p : Ba V8 (r99) (decide (z3 < 0)) A99 n99 c99 xs99 := by rw [← hW]; exact p.on (below_new _ _)
  replace t : Ba V8 (r5) (decide (z4 < 0)) A5 n5 c5 xs5 := by rw [← hW]; exact t.on (below_new _ _)
  replace HB := Lib.hid (show Below r0 w V8 by rw [← hW]; exact HB.out.alloc (by have := HR.out; have := HB.out.size; omega) _)
  clear hW hs8
  generalize w8.heap.size = r8 at *
  by_cases he : (e5 != 0) = true
  · go_wp2
    go_ret
    exact ⟨rfl, HR.out ▸ HB.out⟩
  replace he : (e5 != 0) = false := by simpa using he
  have km0 := m.bx.c0
  have km1 := m.bx.c1
  have lm := m.bx.lt
  go_wp2_with fail
  clear km0 km1 lm
  have C := K6.out he _ _ _ _ _ m.sl F8.out.1 F8.out.2
  refine C.mono ?_
  clear C
  rintro e w9 ⟨A9, n9, c9, xs9, rfl, hs9, hx9, hv9, hbn⟩
  replace a := a.on hbn
  replace p := p.on hbn
  replace t := t.on hbn
  replace m := m.on hbn
  replace HB := Lib.hid (show Below r0 w w9 from below_chain HB.out (by have := HR.out; have := HB.out.size; omega) hbn)
  clear hbn
  have F9 := Lib.hid (And.intro hx9 hv9)
  clear hx9 hv9
  have ka0 := a.bx.c0
  have ka1 := a.bx.c1
  have la := a.bx.lt
  go_wp2_with fail
  clear ka0 ka1 la
  generalize hW : World.alloc w9 _ = V9
  have y : Ba V9 w9.heap.size (decide (va < 0)) A9 n9 c9 xs9 := by rw [← hW]; exact ⟨Bx.new _ _ _ _ _, hs9.on (below_new _ _)⟩
  replace a : Ba V9 (r0) (false) A n c xs := by rw [← hW]; exact a.on (below_new _ _)
  replace p : Ba V9 (r99) (decide (z3 < 0)) A99 n99 c99 xs99 := by rw [← hW]; exact p.on (below_new _ _)
  replace t : Ba V9 (r5) (decide (z4 < 0)) A5 n5 c5 xs5 := by rw [← hW]; exact t.on (below_new _ _)
  replace m : Ba V9 (r8) (decide (z5 < 0)) A8 n8 c8 xs8 := by rw [← hW]; exact m.on (below_new _ _)
  replace HB := Lib.hid (show Below r0 w V9 by rw [← hW]; exact HB.out.alloc (by have := HR.out; have := HB.out.size; omega) _)
  clear hW hs9
  generalize w9.heap.size = r9 at *
  refine (lsame_yes _ _ _ _ _ _ _ _ _ _ _ y.sl a.sl (ov_sign Oa.out) (uniq y.sl.ok a.sl.ok F9.out.1 (ov_parts Oa.out).1 (by rw [F9.out.2, (ov_parts Oa.out).2.1]))).mono ?_
  rintro e w10 ⟨rfl, hbn⟩
  replace a := a.on hbn
  replace p := p.on hbn
  replace t := t.on hbn
  replace m := m.on hbn
  replace y := y.on hbn
  replace HB := Lib.hid (show Below r0 w w10 from below_chain HB.out (by have := HR.out; have := HB.out.size; omega) hbn)
  clear hbn
  go_wp2
  go_ret
  exact ⟨rfl, HR.out ▸ HB.out⟩


end Go.Proofs.Ytalgcppogjpilaa
