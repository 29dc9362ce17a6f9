/-
  The walk of works: the chapter's examples come out right.
-/
import Derived.Test.YtalgcppogjpilaaParseM0
import Derived.Test.YtalgcppogjpilaaDivMod
import Derived.Test.YtalgcppogjpilaaGcd
namespace Go.Proofs.Ytalgcppogjpilaa
open Go.RowKit

theorem lt_big {n : Nat} (h : n < 4294967296) : n < BIG := by
  have e : 4294967296 ^ 1 ≤ BIG := Nat.pow_le_pow_right (by decide) (by decide)
  rw [Nat.pow_one] at e
  omega
theorem vld_of {neg : Bool} {xs : List Nat} (hx : Ok xs) (nx : Nz xs) (hb : val xs < BIG) (h : neg = true → 0 < val xs) : vld neg xs = true := by
  have hl := (big_iff hx nx).1 hb
  unfold vld
  by_cases h0 : xs.length = 0
  · rw [if_pos h0]
    have e : xs = [] := List.eq_nil_of_length_eq_zero h0
    subst e
    cases neg with
    | false => rfl
    | true => exact absurd (h rfl) (by simp [val])
  · rw [if_neg h0]
    have hne : xs ≠ [] := by rintro rfl; exact h0 rfl
    have := (nz_iff hne).1 nx
    simp only [Bool.and_eq_true, decide_eq_true_eq, Bool.not_eq_true', beq_eq_false_iff_ne]
    exact ⟨hl, this⟩
theorem ne_nil {xs : List Nat} (h : 0 < val xs) : xs ≠ [] := by rintro rfl; exact absurd h (by simp [val])
theorem one_limb {xs : List Nat} (nx : Nz xs) (h : 0 < val xs) (h2 : val xs < 4294967296) : xs.length = 1 := by
  have a := length_le nx (n := 1) (by simpa using h2)
  have b := List.length_pos_iff.2 (ne_nil h)
  omega

section
variable {A A' : Option Addr} {n c n' c' : Nat} {xs ys : List Nat} {w : World}
theorem w_div (h : Sl w w.heap.size A n c xs) (h' : Sl w w.heap.size A' n' c' ys) (hx : Nz xs) (hy : Nz ys) (h7 : val xs = 7) (h2 : val ys = 2) :
    Calls Try.prog 31 #[.agg #[.bool false, .slice A n c], .agg #[.bool true, .slice A' n' c']] w (RetI2E (-4) (-1) 0 w) := by
  have := divMod_good false true A A' n c n' c' xs ys w h h' (vld_of h.ok hx (lt_big (by omega)) (by omega)) (vld_of h'.ok hy (lt_big (by omega)) (by omega)) (ne_nil (by omega))
    (divMag_one xs ys hx hy (by omega) (one_limb hy (by omega) (by omega)))
  rw [h7, h2] at this
  exact this
theorem w_gcd (h : Sl w w.heap.size A n c xs) (h' : Sl w w.heap.size A' n' c' ys) (hx : Nz xs) (hy : Nz ys) (h7 : val xs = 12) (h2 : val ys = 18) :
    Calls Try.prog 33 #[.agg #[.bool true, .slice A n c], .agg #[.bool false, .slice A' n' c']] w (RetIE 6 0 w) := by
  have := gcd_good true false A A' n c n' c' xs ys w h h' (vld_of h.ok hx (lt_big (by omega)) (by omega)) (vld_of h'.ok hy (lt_big (by omega)) (by omega))
    (gcdMag_small hx hy (by rw [one_limb hx (by omega) (by omega)]; omega) (by rw [one_limb hy (by omega) (by omega)]; omega) (ne_nil (by omega)) (ne_nil (by omega)))
  rw [h7, h2] at this
  exact this
theorem w_shift (h : Sl w w.heap.size A n c xs) (hx : Nz xs) (h5 : val xs = 5) :
    Calls Try.prog 39 #[.agg #[.bool true, .slice A n c], .int .i64 (-1)] w (RetIE (-3) 0 w) := by
  have := shr_neg2 A n c xs w h (vld_of h.ok hx (lt_big (by omega)) (by omega)) (ne_nil (by omega)) 1 (by omega) (by omega)
  rw [h5] at this
  exact this
theorem w_text (h : Sl w w.heap.size A n c xs) (hx : Nz xs) (h5 : val xs = 12) :
    Calls Try.prog 44 #[.agg #[.bool true, .slice A n c]] w fun e w' => e = .returned (.tuple #[.string ⟨#[45, 49, 50]⟩, .int .i64 0]) ∧ Below w.heap.size w w' :=
  text_12 A n c xs w h (uniq h.ok (Ok.cons (by omega) Ok.nil) hx (by simp [Nz]) (by rw [h5]; rfl))
end

/-- An integer in a box: its cells, its limbs, its magnitude. -/
structure Bd (w : World) (r : Nat) (neg : Bool) (A : Option Addr) (n c : Nat) (xs : List Nat) (v : Nat) : Prop where
  bx : Bx w r neg A n c
  sl : Sl w w.heap.size A n c xs
  nz : Nz xs
  mag : val xs = v
theorem Bd.on {w w' : World} {r : Nat} {neg : Bool} {A : Option Addr} {n c : Nat} {xs : List Nat} {v : Nat} (h : Bd w r neg A n c xs v) (hb : Below w.heap.size w w') : Bd w' r neg A n c xs v :=
  ⟨h.bx.below hb h.bx.lt, h.sl.on hb, h.nz, h.mag⟩
theorem Bd.drew {w : World} {r : Nat} {neg : Bool} {A : Option Addr} {n c : Nat} {xs : List Nat} {v : Nat} (h : Bd w r neg A n c xs v) : Bd w.drew r neg A n c xs v := ⟨h.bx.drew, h.sl.drew, h.nz, h.mag⟩
theorem Bd.new {w : World} {neg : Bool} {A : Option Addr} {n c : Nat} {xs : List Nat} {v : Nat} (hs : Sl w w.heap.size A n c xs) (hx : Nz xs) (hv : val xs = v) : Bd (w.alloc (.cells #[.bool neg, .slice A n c] 24)) w.heap.size neg A n c xs v :=
  ⟨Bx.new w neg A n c, hs.on ((Below.refl _ _).alloc (Nat.le_refl _) _), hx, hv⟩
theorem below_new (w : World) (o : Obj) : Below w.heap.size w (w.alloc o) := (Below.refl _ _).alloc (Nat.le_refl _) _

set_option maxHeartbeats 4000000 in
theorem works_any (w : World) : Calls Try.prog 20 #[] w fun e w' => e = .returned (.bool true) ∧ Below w.heap.size w w' := by
  have hb0 := Below.refl w.heap.size w
  go_enter Try.func20, Try.ntmps20
  go_wp2_with fail
  refine (of_any 7 _ (by omega) (by omega)).mono ?_
  rintro e w1 ⟨A1, n1, c1, xs1, rfl, hs1, hx1, hv1, hb1⟩
  have Hv1 := Lib.hid hv1
  clear hv1
  go_wp2_with fail
  refine (of_any (-2) _ (by omega) (by omega)).mono ?_
  rintro e w2 ⟨A2, n2, c2, xs2, rfl, hs2, hx2, hv2, hb2⟩
  have Hv2 := Lib.hid hv2
  clear hv2
  have ht1 := hs1.on hb2
  have hb := below_chain hb1 hb1.size hb2
  clear hb1 hb2 hs1
  go_wp2_with fail
  refine (w_div ht1 hs2 hx1 hx2 Hv1.out Hv2.out).mono ?_
  rintro e w3 ⟨A3, n3, c3, xs3, A4, n4, c4, xs4, rfl, hs3, hx3, hv3, hs4, hx4, hv4, hb3⟩
  have Hv3 := Lib.hid hv3
  have Hv4 := Lib.hid hv4
  have Hb := Lib.hid (below_chain hb hb.size hb3)
  clear hv3 hv4 ht1 hs2 hx1 hx2 Hv1 Hv2 hb hb3
  go_wp2_with fail
  generalize hW : World.alloc (World.alloc w3 _) _ = V1
  have hV : Below w.heap.size w V1 := by rw [← hW]; exact (Hb.out.alloc Hb.out.size _).alloc (by have := Hb.out.size; simp; omega) _
  have d1 : Bd V1 w3.heap.size true A3 n3 c3 xs3 4 := by rw [← hW]; exact (Bd.new hs3 hx3 Hv3.out).on (below_new _ _)
  have d2 : Bd V1 (w3.heap.size + 1) true A4 n4 c4 xs4 1 := by
    rw [← hW]
    have := Bd.new (neg := true) (hs4.on (below_new w3 (.cells #[.bool true, .slice A3 n3 c3] 24))) hx4 Hv4.out
    simpa using this
  have HV1 := Lib.hid hV
  clear hW hV hs3 hx3 Hv3 hs4 hx4 Hv4 Hb
  generalize w3.heap.size = r1 at *
  -- GCD
  refine (of_any (-12) _ (by omega) (by omega)).mono ?_
  rintro e w4 ⟨A5, n5, c5, xs5, rfl, hs5, hx5, hv5, hb5⟩
  have Hv5 := Lib.hid hv5
  clear hv5
  go_wp2_with fail
  refine (of_any 18 _ (by omega) (by omega)).mono ?_
  rintro e w5 ⟨A6, n6, c6, xs6, rfl, hs6, hx6, hv6, hb6⟩
  have Hv6 := Lib.hid hv6
  clear hv6
  go_wp2_with fail
  refine (w_gcd (hs5.on hb6) hs6 hx5 hx6 Hv5.out Hv6.out).mono ?_
  rintro e w6 ⟨A7, n7, c7, xs7, rfl, hs7, hx7, hv7, hb7⟩
  have Hv7 := Lib.hid hv7
  have HV2 := Lib.hid (below_chain (below_chain (below_chain HV1.out HV1.out.size hb5) (by have := hb5.size; have := HV1.out.size; omega) hb6) (by have := hb5.size; have := hb6.size; have := HV1.out.size; omega) hb7)
  have e1 := ((d1.on hb5).on hb6).on hb7
  have e2 := ((d2.on hb5).on hb6).on hb7
  clear hv7 hs5 hx5 Hv5 hs6 hx6 Hv6 hb5 hb6 hb7 d1 d2 HV1
  go_wp2_with fail
  generalize hW : World.alloc w6 _ = V2
  have hV : Below w.heap.size w V2 := by rw [← hW]; exact HV2.out.alloc HV2.out.size _
  have d3 : Bd V2 w6.heap.size false A7 n7 c7 xs7 6 := by rw [← hW]; exact Bd.new hs7 hx7 Hv7.out
  have d1 : Bd V2 r1 true A3 n3 c3 xs3 4 := by rw [← hW]; exact e1.on (below_new _ _)
  have d2 : Bd V2 (r1 + 1) true A4 n4 c4 xs4 1 := by rw [← hW]; exact e2.on (below_new _ _)
  have HV3 := Lib.hid hV
  clear hW hV hs7 hx7 Hv7 HV2 e1 e2
  generalize w6.heap.size = r3 at *
  -- Shift
  refine (of_any (-5) _ (by omega) (by omega)).mono ?_
  rintro e w7 ⟨A8, n8, c8, xs8, rfl, hs8, hx8, hv8, hb8⟩
  have Hv8 := Lib.hid hv8
  clear hv8
  go_wp2_with fail
  refine (w_shift hs8 hx8 Hv8.out).mono ?_
  rintro e w8 ⟨A9, n9, c9, xs9, rfl, hs9, hx9, hv9, hb9⟩
  have Hv9 := Lib.hid hv9
  have HV4 := Lib.hid (below_chain (below_chain HV3.out HV3.out.size hb8) (by have := hb8.size; have := HV3.out.size; omega) hb9)
  have e1 := (d1.on hb8).on hb9
  have e2 := (d2.on hb8).on hb9
  have e3 := (d3.on hb8).on hb9
  clear hv9 hs8 hx8 Hv8 hb8 hb9 d1 d2 d3 HV3
  go_wp2_with fail
  generalize hW : World.alloc w8 _ = V3
  have hV : Below w.heap.size w V3 := by rw [← hW]; exact HV4.out.alloc HV4.out.size _
  have d4 : Bd V3 w8.heap.size true A9 n9 c9 xs9 3 := by rw [← hW]; exact Bd.new hs9 hx9 Hv9.out
  have d1 : Bd V3 r1 true A3 n3 c3 xs3 4 := by rw [← hW]; exact e1.on (below_new _ _)
  have d2 : Bd V3 (r1 + 1) true A4 n4 c4 xs4 1 := by rw [← hW]; exact e2.on (below_new _ _)
  have d3 : Bd V3 r3 false A7 n7 c7 xs7 6 := by rw [← hW]; exact e3.on (below_new _ _)
  have HV5 := Lib.hid hV
  clear hW hV hs9 hx9 Hv9 HV4 e1 e2 e3
  generalize w8.heap.size = r4 at *
  -- Text
  refine (of_any (-12) _ (by omega) (by omega)).mono ?_
  rintro e w9 ⟨A8, n8, c8, xs8, rfl, hs8, hx8, hv8, hb8⟩
  have Hv8 := Lib.hid hv8
  clear hv8
  go_wp2_with fail
  refine (w_text hs8 hx8 Hv8.out).mono ?_
  rintro e w10 ⟨rfl, hb9⟩
  have HV6 := Lib.hid (below_chain (below_chain HV5.out HV5.out.size hb8) (by have := hb8.size; have := HV5.out.size; omega) hb9)
  have e1 := (d1.on hb8).on hb9
  have e2 := (d2.on hb8).on hb9
  have e3 := (d3.on hb8).on hb9
  have e4 := (d4.on hb8).on hb9
  clear hs8 hx8 Hv8 hb8 hb9 d1 d2 d3 d4 HV5
  go_wp2_with fail
  -- Parse
  refine (parse_m0 _).mono ?_
  rintro e w11 ⟨A8, n8, c8, xs8, rfl, hs8, hx8, hv8, hb8⟩
  have Hv8 := Lib.hid hv8
  have HV7 := Lib.hid (below_chain HV6.out HV6.out.size hb8)
  have f1 := e1.on hb8
  have f2 := e2.on hb8
  have f3 := e3.on hb8
  have f4 := e4.on hb8
  clear hv8 hb8 e1 e2 e3 e4 HV6
  go_wp2_with fail
  generalize hW : World.alloc w11 _ = V4
  have hV : Below w.heap.size w V4 := by rw [← hW]; exact HV7.out.alloc HV7.out.size _
  have g5 : Bd V4 w11.heap.size false A8 n8 c8 xs8 0 := by rw [← hW]; exact Bd.new hs8 hx8 Hv8.out
  have g1 : Bd V4 r1 true A3 n3 c3 xs3 4 := by rw [← hW]; exact f1.on (below_new _ _)
  have g2 : Bd V4 (r1 + 1) true A4 n4 c4 xs4 1 := by rw [← hW]; exact f2.on (below_new _ _)
  have g3 : Bd V4 r3 false A7 n7 c7 xs7 6 := by rw [← hW]; exact f3.on (below_new _ _)
  have g4 : Bd V4 r4 true A9 n9 c9 xs9 3 := by rw [← hW]; exact f4.on (below_new _ _)
  clear hW hs8 hx8 Hv8 HV7 f1 f2 f3 f4
  generalize w11.heap.size = r5 at *
  have HB : Below w.heap.size w V4.drew := hV.drew
  have g1 : Bd V4.drew r1 true A3 n3 c3 xs3 4 := g1.drew
  have g2 : Bd V4.drew (r1 + 1) true A4 n4 c4 xs4 1 := g2.drew
  have g3 : Bd V4.drew r3 false A7 n7 c7 xs7 6 := g3.drew
  have g4 : Bd V4.drew r4 true A9 n9 c9 xs9 3 := g4.drew
  have g5 : Bd V4.drew r5 false A8 n8 c8 xs8 0 := g5.drew
  have p1 := g1.bx.c0
  have q1 := g1.bx.c1
  have p2 := g2.bx.c0
  have q2 := g2.bx.c1
  have p3 := g3.bx.c0
  have q3 := g3.bx.c1
  have p4 := g4.bx.c0
  have q4 := g4.bx.c1
  have p5 := g5.bx.c0
  have q5 := g5.bx.c1
  go_region_held3 (fun w' => w'.cell? ⟨r1, 0, none⟩ = some (.bool true) ∧ w'.cell? ⟨r1, 1, none⟩ = some (.slice A3 n3 c3) ∧ w'.cell? ⟨r1 + 1, 0, none⟩ = some (.bool true) ∧ w'.cell? ⟨r1 + 1, 1, none⟩ = some (.slice A4 n4 c4) ∧
      w'.cell? ⟨r3, 0, none⟩ = some (.bool false) ∧ w'.cell? ⟨r3, 1, none⟩ = some (.slice A7 n7 c7) ∧ w'.cell? ⟨r4, 0, none⟩ = some (.bool true) ∧ w'.cell? ⟨r4, 1, none⟩ = some (.slice A9 n9 c9) ∧
      w'.cell? ⟨r5, 0, none⟩ = some (.bool false) ∧ w'.cell? ⟨r5, 1, none⟩ = some (.slice A8 n8 c8))
    (first | exact ⟨p1, q1, p2, q2, p3, q3, p4, q4, p5, q5⟩ | go_keep)
    (first
      | (go_at_call 23
         have hq : xs8 = [] := val_zero g5.nz g5.mag
         (with_reducible refine (lsame_yes _ _ _ _ _ _ _ _ _ _ _ g5.sl (Sl.nil _ _) rfl hq).mono ?_)
         clear hq
         rintro e wS ⟨rfl, hbS⟩
         have g1 := g1.on hbS
         have g2 := g2.on hbS
         have g3 := g3.on hbS
         have g4 := g4.on hbS
         have g5 := g5.on hbS
         have HB := below_chain HB HB.size hbS
         have p1 := g1.bx.c0
         have q1 := g1.bx.c1
         have p2 := g2.bx.c0
         have q2 := g2.bx.c1
         have p3 := g3.bx.c0
         have q3 := g3.bx.c1
         have p4 := g4.bx.c0
         have q4 := g4.bx.c1
         have p5 := g5.bx.c0
         have q5 := g5.bx.c1
         clear hbS)
      | (go_at_call 23
         have hq : xs3 = xsO := uniq g1.sl.ok hsO.ok g1.nz hxO (by rw [g1.mag, hvO]; rfl)
         (with_reducible refine (lsame_yes _ _ _ _ _ _ _ _ _ _ _ g1.sl hsO rfl hq).mono ?_)
         clear hq
         rintro e wS ⟨rfl, hbS⟩
         have g1 := g1.on hbS
         have g2 := g2.on hbS
         have g3 := g3.on hbS
         have g4 := g4.on hbS
         have g5 := g5.on hbS
         have HB := below_chain HB HB.size hbS
         have p1 := g1.bx.c0
         have q1 := g1.bx.c1
         have p2 := g2.bx.c0
         have q2 := g2.bx.c1
         have p3 := g3.bx.c0
         have q3 := g3.bx.c1
         have p4 := g4.bx.c0
         have q4 := g4.bx.c1
         have p5 := g5.bx.c0
         have q5 := g5.bx.c1
         clear hsO hxO hvO hbS)
      | (go_at_call 23
         have hq : xs4 = xsO := uniq g2.sl.ok hsO.ok g2.nz hxO (by rw [g2.mag, hvO]; rfl)
         (with_reducible refine (lsame_yes _ _ _ _ _ _ _ _ _ _ _ g2.sl hsO rfl hq).mono ?_)
         clear hq
         rintro e wS ⟨rfl, hbS⟩
         have g1 := g1.on hbS
         have g2 := g2.on hbS
         have g3 := g3.on hbS
         have g4 := g4.on hbS
         have g5 := g5.on hbS
         have HB := below_chain HB HB.size hbS
         have p1 := g1.bx.c0
         have q1 := g1.bx.c1
         have p2 := g2.bx.c0
         have q2 := g2.bx.c1
         have p3 := g3.bx.c0
         have q3 := g3.bx.c1
         have p4 := g4.bx.c0
         have q4 := g4.bx.c1
         have p5 := g5.bx.c0
         have q5 := g5.bx.c1
         clear hsO hxO hvO hbS)
      | (go_at_call 23
         have hq : xs7 = xsO := uniq g3.sl.ok hsO.ok g3.nz hxO (by rw [g3.mag, hvO]; rfl)
         (with_reducible refine (lsame_yes _ _ _ _ _ _ _ _ _ _ _ g3.sl hsO rfl hq).mono ?_)
         clear hq
         rintro e wS ⟨rfl, hbS⟩
         have g1 := g1.on hbS
         have g2 := g2.on hbS
         have g3 := g3.on hbS
         have g4 := g4.on hbS
         have g5 := g5.on hbS
         have HB := below_chain HB HB.size hbS
         have p1 := g1.bx.c0
         have q1 := g1.bx.c1
         have p2 := g2.bx.c0
         have q2 := g2.bx.c1
         have p3 := g3.bx.c0
         have q3 := g3.bx.c1
         have p4 := g4.bx.c0
         have q4 := g4.bx.c1
         have p5 := g5.bx.c0
         have q5 := g5.bx.c1
         clear hsO hxO hvO hbS)
      | (go_at_call 23
         have hq : xs9 = xsO := uniq g4.sl.ok hsO.ok g4.nz hxO (by rw [g4.mag, hvO]; rfl)
         (with_reducible refine (lsame_yes _ _ _ _ _ _ _ _ _ _ _ g4.sl hsO rfl hq).mono ?_)
         clear hq
         rintro e wS ⟨rfl, hbS⟩
         have g1 := g1.on hbS
         have g2 := g2.on hbS
         have g3 := g3.on hbS
         have g4 := g4.on hbS
         have g5 := g5.on hbS
         have HB := below_chain HB HB.size hbS
         have p1 := g1.bx.c0
         have q1 := g1.bx.c1
         have p2 := g2.bx.c0
         have q2 := g2.bx.c1
         have p3 := g3.bx.c0
         have q3 := g3.bx.c1
         have p4 := g4.bx.c0
         have q4 := g4.bx.c1
         have p5 := g5.bx.c0
         have q5 := g5.bx.c1
         clear hsO hxO hvO hbS)
      | (go_at_call 18
         refine (of_any _ _ (by omega) (by omega)).mono ?_
         rintro e wO ⟨AO, nO, cO, xsO, rfl, hsO, hxO, hvO, hbO⟩
         have g1 := g1.on hbO
         have g2 := g2.on hbO
         have g3 := g3.on hbO
         have g4 := g4.on hbO
         have g5 := g5.on hbO
         have HB := below_chain HB HB.size hbO
         have p1 := g1.bx.c0
         have q1 := g1.bx.c1
         have p2 := g2.bx.c0
         have q2 := g2.bx.c1
         have p3 := g3.bx.c0
         have q3 := g3.bx.c1
         have p4 := g4.bx.c0
         have q4 := g4.bx.c1
         have p5 := g5.bx.c0
         have q5 := g5.bx.c1
         clear hbO))
  go_wp2
  go_ret
  exact ⟨rfl, HB⟩

end Go.Proofs.Ytalgcppogjpilaa
