/-
  Stage 2: the reference's Cmp, Sign, Floor and Sqrt.
-/
import Derived.Test.YtlibjampolcbhaaGreatRatCo
import Derived.Test.YtlibjampolcbhaaGreatBaseH
namespace Go.Proofs.YtlibjampolcbhaaGreat
open Go.RowKit
theorem RetZE.of {z er : Int} {w U : World} {r : Nat} {g : Bool} {A : Option Addr} {n c : Nat} {xs : List Nat} (h : Ba U r g A n c xs) (ho : ov g xs = some z) (hb : Below w.heap.size w U) : RetZE z er w (.returned (.tuple #[.agg #[.bool g, .slice A n c], .int .i64 er])) U := ⟨g, A, n, c, xs, rfl, h.sl, ho, hb⟩
/-- A square root is handed back: the number, whether it is exact, the error. -/
def RetSB (z : Int) (b : Bool) (er : Int) (w : World) (e : Ending) (w' : World) : Prop := ∃ g A n c xs, e = .returned (.tuple #[.agg #[.bool g, .slice A n c], .bool b, .int .i64 er]) ∧ Sl w' w'.heap.size A n c xs ∧ ov g xs = some z ∧ Below w.heap.size w w'
theorem RetSq.sb {z : Int} {b : Bool} {er : Int} {w : World} {e : Ending} {w' : World} (hz : z.natAbs < BIG) (h : RetSq z b er w e w') : RetSB z b er w e w' := by
  obtain ⟨A, n, c, xs, rfl, hs, hx, hv, hb⟩ := h
  exact ⟨_, A, n, c, xs, rfl, hs, ov_res hs.ok hx hv hz, hb⟩
section
variable {g : Bool} {A : Option Addr} {n c : Nat} {xs : List Nat} {w : World} {a : Int}
theorem rshift_z (h : Sl w w.heap.size A n c xs) (hx : ov g xs = some a) (s z e : Int) (h1 : -9223372036854775808 ≤ s) (h2 : s ≤ 9223372036854775807) (hz : fitZ (shf a s) = z ∧ fitE (shf a s) = e) :
    Calls Tryz.prog 76 #[.agg #[.bool g, .slice A n c], .int .i64 s] w (RetZE z e w) := by
  have C := rshift_ov (neg := g) h s h1 h2
  rw [hx, show oZ (shf · s) (some a) = z from hz.1, show oE (shf · s) (some a) = e from hz.2] at C
  exact C.mono fun _ _ k => RetIE.ze (by rw [← hz.1]; exact fitZ_lt _) k
theorem rsqrt_z (h : Sl w w.heap.size A n c xs) (hx : ov g xs = some a) (h0 : 0 ≤ a) (s : Nat) (b : Bool) (h1 : s * s ≤ a.natAbs) (h2 : a.natAbs < (s + 1) * (s + 1)) (hb : decide (s * s = a.natAbs) = b) :
    Calls Tryz.prog 79 #[.agg #[.bool g, .slice A n c]] w (RetSB s b 0 w) := by
  have sgn := ov_sign hx
  have g0 : g = false := by rw [← sgn]; exact decide_eq_false (by omega)
  subst g0
  have p := ov_parts hx
  have l := ov_lt h.ok hx
  have C := rsqrt_good A n c xs w h p.2.2 s a.natAbs b p.2.1 h1 h2 hb
  refine C.mono fun _ _ k => RetSq.sb (z := (s : Int)) ?_ k
  have : s ≤ s * s := by
    rcases Nat.eq_zero_or_pos s with e | e
    · omega
    · exact Nat.le_mul_of_pos_left s e
  rw [Int.natAbs_natCast]; omega
end
set_option linter.unusedSimpArgs false in
set_option maxRecDepth 20000 in
set_option maxHeartbeats 2000000 in
theorem rcmpq_bad (p q : RVal) (w : World) (ha : p.In w) (hb : q.In w) (hv : ((rv p.o p.od).isSome && (rv q.o q.od).isSome) = false) :
    Calls Tryz.prog 32 #[.agg #[.bool p.g, .slice p.A p.n p.c, .bool p.gd, .slice p.Ad p.nd p.cd], .agg #[.bool q.g, .slice q.A q.n q.c, .bool q.gd, .slice q.Ad q.nd q.cd]] w (RetC 0 1 w) := by
  have HV := hI hv
  clear hv
  have Ia_0 := hI ha
  clear ha
  have Ib_0 := hI hb
  clear hb
  have B_0 : Hid (Below w.heap.size w w) := hI (Below.refl _ _)
  go_enter Tryz.func32, Tryz.ntmps32
  go_wp2_with fail
  generalize hW : World.alloc w _ = W1
  have hn := below_new w (.cells #[.bool p.g, .slice p.A p.n p.c, .bool p.gd, .slice p.Ad p.nd p.cd] 27)
  rw [hW] at hn
  have hz : W1.heap.size = w.heap.size + 1 := by rw [← hW]; simp
  have hx : Rb W1 w.heap.size p := by rw [← hW]; exact Rb.new (q := p) Ia_0.out
  have Ib_1 := hI (Ib_0.out.on hn)
  have B_2 := hI (below_chain B_0.out B_0.out.size hn)
  generalize hr : w.heap.size = r at *
  have HRr := hI hr
  clear hr
  have Xa_3 : Hid (Rb W1 r p) := hI hx
  have HT3 := hz
  clear hn hx hz hW Ib_0 B_0 Ia_0
  generalize hW : World.alloc W1 _ = W4
  have hn := below_new W1 (.cells #[.bool q.g, .slice q.A q.n q.c, .bool q.gd, .slice q.Ad q.nd q.cd] 27)
  rw [hW] at hn
  have hx : Rb W4 W1.heap.size q := by rw [← hW]; exact Rb.new (q := q) Ib_1.out
  have hlt : r < W1.heap.size := Xa_3.out.lt
  have B_4 := hI (bch B_2.out HRr.out hn)
  have Xa_5 := hI (Xa_3.out.on hn)
  rw [HT3] at hx hlt
  have Xb_6 : Hid (Rb W4 (r + 1) q) := hI hx
  clear hn hx hW hlt B_2 Xa_3 Ib_1
  clear HT3
  refine (rboth_q Xa_5.out.sl Xb_6.out.sl false HV.out).mono ?_
  rintro e w7 ⟨rfl, hb⟩
  have B_7 := hI (bch B_4.out HRr.out hb)
  have Xa_8 := hI (Xa_5.out.on hb)
  have Xb_9 := hI (Xb_6.out.on hb)
  clear hb B_4 Xa_5 Xb_6
  go_wp2
  go_ret2
  exact ⟨rfl, (by rw [HRr.out]; exact B_7.out)⟩
set_option linter.unusedSimpArgs false in
set_option maxRecDepth 20000 in
set_option maxHeartbeats 2000000 in
theorem rcmpq_ok (p q : RVal) (w : World) (ha : p.In w) (hb : q.In w) (x y : Rat) (ha2 : rv p.o p.od = some x) (hb2 : rv q.o q.od = some y) (u : Int) (hu : Int.sign (x.num * y.den - y.num * x.den) = u) :
    Calls Tryz.prog 32 #[.agg #[.bool p.g, .slice p.A p.n p.c, .bool p.gd, .slice p.Ad p.nd p.cd], .agg #[.bool q.g, .slice q.A q.n q.c, .bool q.gd, .slice q.Ad q.nd q.cd]] w (RetC u 0 w) := by
  have Va := hI ha2
  have Vb := hI hb2
  have HU := hI hu
  clear ha2 hb2 hu
  have Ia_0 := hI ha
  clear ha
  have Ib_0 := hI hb
  clear hb
  have B_0 : Hid (Below w.heap.size w w) := hI (Below.refl _ _)
  go_enter Tryz.func32, Tryz.ntmps32
  go_wp2_with fail
  generalize hW : World.alloc w _ = W1
  have hn := below_new w (.cells #[.bool p.g, .slice p.A p.n p.c, .bool p.gd, .slice p.Ad p.nd p.cd] 27)
  rw [hW] at hn
  have hz : W1.heap.size = w.heap.size + 1 := by rw [← hW]; simp
  have hx : Rb W1 w.heap.size p := by rw [← hW]; exact Rb.new (q := p) Ia_0.out
  have Ib_1 := hI (Ib_0.out.on hn)
  have B_2 := hI (below_chain B_0.out B_0.out.size hn)
  generalize hr : w.heap.size = r at *
  have HRr := hI hr
  clear hr
  have Xa_3 : Hid (Rb W1 r p) := hI hx
  have HT3 := hz
  clear hn hx hz hW Ib_0 B_0 Ia_0
  generalize hW : World.alloc W1 _ = W4
  have hn := below_new W1 (.cells #[.bool q.g, .slice q.A q.n q.c, .bool q.gd, .slice q.Ad q.nd q.cd] 27)
  rw [hW] at hn
  have hx : Rb W4 W1.heap.size q := by rw [← hW]; exact Rb.new (q := q) Ib_1.out
  have hlt : r < W1.heap.size := Xa_3.out.lt
  have B_4 := hI (bch B_2.out HRr.out hn)
  have Xa_5 := hI (Xa_3.out.on hn)
  rw [HT3] at hx hlt
  have Xb_6 : Hid (Rb W4 (r + 1) q) := hI hx
  clear hn hx hW hlt B_2 Xa_3 Ib_1
  clear HT3
  refine (rboth_q Xa_5.out.sl Xb_6.out.sl true (by rw [Va.out, Vb.out]; rfl)).mono ?_
  rintro e w7 ⟨rfl, hb⟩
  have B_7 := hI (bch B_4.out HRr.out hb)
  have Xa_8 := hI (Xa_5.out.on hb)
  have Xb_9 := hI (Xb_6.out.on hb)
  clear hb B_4 Xa_5 Xb_6
  obtain ⟨ka0, ka1, ka2, ka3⟩ := Xa_8.out.cs
  have la := Xa_8.out.lt
  obtain ⟨kb0, kb1, kb2, kb3⟩ := Xb_9.out.cs
  have lb := Xb_9.out.lt
  go_wp2_with fail
  refine (rcompare_run p q w7 Xa_8.out.sl.1 Xa_8.out.sl.2 Xb_9.out.sl.1 Xb_9.out.sl.2 x.num x.den y.num y.den u ⟨(rv_some Va.out).1, (rv_some Va.out).2, (rv_some Vb.out).1, (rv_some Vb.out).2, by have := x.den_pos; omega, by have := y.den_pos; omega, HU.out⟩).mono ?_
  clear ka0 ka1 ka2 ka3 la kb0 kb1 kb2 kb3 lb
  rintro e w10 ⟨rfl, hb⟩
  have B_10 := hI (bch B_7.out HRr.out hb)
  have Xa_11 := hI (Xa_8.out.on hb)
  have Xb_12 := hI (Xb_9.out.on hb)
  clear hb B_7 Xa_8 Xb_9
  go_wp2
  go_ret2
  exact ⟨rfl, (by rw [HRr.out]; exact B_10.out)⟩
set_option linter.unusedSimpArgs false in
set_option maxRecDepth 20000 in
set_option maxHeartbeats 2000000 in
theorem rsign_bad (p : RVal) (w : World) (ha : p.In w) (hv : (rv p.o p.od).isSome = false) :
    Calls Tryz.prog 38 #[.agg #[.bool p.g, .slice p.A p.n p.c, .bool p.gd, .slice p.Ad p.nd p.cd]] w fun e w' => e = .returned (.int .i64 0) ∧ Below w.heap.size w w' := by
  have HV := hI hv
  clear hv
  have Ia_0 := hI ha
  clear ha
  have B_0 : Hid (Below w.heap.size w w) := hI (Below.refl _ _)
  go_enter Tryz.func38, Tryz.ntmps38
  go_wp2_with fail
  generalize hW : World.alloc w _ = W1
  have hn := below_new w (.cells #[.bool p.g, .slice p.A p.n p.c, .bool p.gd, .slice p.Ad p.nd p.cd] 27)
  rw [hW] at hn
  have hx : Rb W1 w.heap.size p := by rw [← hW]; exact Rb.new (q := p) Ia_0.out
  have B_1 := hI (below_chain B_0.out B_0.out.size hn)
  generalize hr : w.heap.size = r at *
  have HRr := hI hr
  clear hr
  have Xa_2 : Hid (Rb W1 r p) := hI hx
  clear hn hx hW B_0 Ia_0
  have C := rvalid2 Xa_2.out.sl
  rw [HV.out] at C
  refine C.mono ?_
  clear C
  rintro e w3 ⟨rfl, hb⟩
  have B_3 := hI (bch B_1.out HRr.out hb)
  have Xa_4 := hI (Xa_2.out.on hb)
  clear hb B_1 Xa_2
  go_wp2
  go_ret
  exact ⟨rfl, (by rw [HRr.out]; exact B_3.out)⟩
set_option linter.unusedSimpArgs false in
set_option maxRecDepth 20000 in
set_option maxHeartbeats 2000000 in
theorem rsign_zero (p : RVal) (w : World) (ha : p.In w) (hv : (rv p.o p.od).isSome = true) (hn : decide (p.n = 0) = true ∧ True) :
    Calls Tryz.prog 38 #[.agg #[.bool p.g, .slice p.A p.n p.c, .bool p.gd, .slice p.Ad p.nd p.cd]] w fun e w' => e = .returned (.int .i64 0) ∧ Below w.heap.size w w' := by
  have HV := hI hv
  have HN := hI hn
  clear hv hn
  have Ia_0 := hI ha
  clear ha
  have B_0 : Hid (Below w.heap.size w w) := hI (Below.refl _ _)
  go_enter Tryz.func38, Tryz.ntmps38
  go_wp2_with fail
  generalize hW : World.alloc w _ = W1
  have hn := below_new w (.cells #[.bool p.g, .slice p.A p.n p.c, .bool p.gd, .slice p.Ad p.nd p.cd] 27)
  rw [hW] at hn
  have hx : Rb W1 w.heap.size p := by rw [← hW]; exact Rb.new (q := p) Ia_0.out
  have B_1 := hI (below_chain B_0.out B_0.out.size hn)
  generalize hr : w.heap.size = r at *
  have HRr := hI hr
  clear hr
  have Xa_2 : Hid (Rb W1 r p) := hI hx
  clear hn hx hW B_0 Ia_0
  have C := rvalid2 Xa_2.out.sl
  rw [HV.out] at C
  refine C.mono ?_
  clear C
  rintro e w3 ⟨rfl, hb⟩
  have B_3 := hI (bch B_1.out HRr.out hb)
  have Xa_4 := hI (Xa_2.out.on hb)
  clear hb B_1 Xa_2
  obtain ⟨ka0, ka1, ka2, ka3⟩ := Xa_4.out.cs
  have la := Xa_4.out.lt
  go_wp2_with fail
  have C := riszero_any p.g p.A p.n p.c w3
  rw [HN.out.1] at C
  refine C.mono ?_
  clear C
  clear ka0 ka1 ka2 ka3 la
  rintro e w5 ⟨rfl, hb⟩
  have B_5 := hI (bch B_3.out HRr.out hb)
  have Xa_6 := hI (Xa_4.out.on hb)
  clear hb B_3 Xa_4
  obtain ⟨ka0, ka1, ka2, ka3⟩ := Xa_6.out.cs
  have la := Xa_6.out.lt
  go_wp2
  go_ret
  exact ⟨rfl, (by rw [HRr.out]; exact B_5.out)⟩
set_option linter.unusedSimpArgs false in
set_option maxRecDepth 20000 in
set_option maxHeartbeats 2000000 in
theorem rsign_neg (p : RVal) (w : World) (ha : p.In w) (hv : (rv p.o p.od).isSome = true) (hn : decide (p.n = 0) = false ∧ p.g = true) :
    Calls Tryz.prog 38 #[.agg #[.bool p.g, .slice p.A p.n p.c, .bool p.gd, .slice p.Ad p.nd p.cd]] w fun e w' => e = .returned (.int .i64 (-1)) ∧ Below w.heap.size w w' := by
  have HV := hI hv
  have HN := hI hn
  clear hv hn
  have Ia_0 := hI ha
  clear ha
  have B_0 : Hid (Below w.heap.size w w) := hI (Below.refl _ _)
  go_enter Tryz.func38, Tryz.ntmps38
  go_wp2_with fail
  generalize hW : World.alloc w _ = W1
  have hn := below_new w (.cells #[.bool p.g, .slice p.A p.n p.c, .bool p.gd, .slice p.Ad p.nd p.cd] 27)
  rw [hW] at hn
  have hx : Rb W1 w.heap.size p := by rw [← hW]; exact Rb.new (q := p) Ia_0.out
  have B_1 := hI (below_chain B_0.out B_0.out.size hn)
  generalize hr : w.heap.size = r at *
  have HRr := hI hr
  clear hr
  have Xa_2 : Hid (Rb W1 r p) := hI hx
  clear hn hx hW B_0 Ia_0
  have C := rvalid2 Xa_2.out.sl
  rw [HV.out] at C
  refine C.mono ?_
  clear C
  rintro e w3 ⟨rfl, hb⟩
  have B_3 := hI (bch B_1.out HRr.out hb)
  have Xa_4 := hI (Xa_2.out.on hb)
  clear hb B_1 Xa_2
  obtain ⟨ka0, ka1, ka2, ka3⟩ := Xa_4.out.cs
  have la := Xa_4.out.lt
  go_wp2_with fail
  have C := riszero_any p.g p.A p.n p.c w3
  rw [HN.out.1] at C
  refine C.mono ?_
  clear C
  clear ka0 ka1 ka2 ka3 la
  rintro e w5 ⟨rfl, hb⟩
  have B_5 := hI (bch B_3.out HRr.out hb)
  have Xa_6 := hI (Xa_4.out.on hb)
  clear hb B_3 Xa_4
  obtain ⟨ka0, ka1, ka2, ka3⟩ := Xa_6.out.cs
  have la := Xa_6.out.lt
  have hg : p.g = true := HN.out.2
  rw [hg] at ka0
  go_wp2
  go_ret
  exact ⟨rfl, (by rw [HRr.out]; exact B_5.out)⟩
set_option linter.unusedSimpArgs false in
set_option maxRecDepth 20000 in
set_option maxHeartbeats 2000000 in
theorem rsign_pos (p : RVal) (w : World) (ha : p.In w) (hv : (rv p.o p.od).isSome = true) (hn : decide (p.n = 0) = false ∧ p.g = false) :
    Calls Tryz.prog 38 #[.agg #[.bool p.g, .slice p.A p.n p.c, .bool p.gd, .slice p.Ad p.nd p.cd]] w fun e w' => e = .returned (.int .i64 1) ∧ Below w.heap.size w w' := by
  have HV := hI hv
  have HN := hI hn
  clear hv hn
  have Ia_0 := hI ha
  clear ha
  have B_0 : Hid (Below w.heap.size w w) := hI (Below.refl _ _)
  go_enter Tryz.func38, Tryz.ntmps38
  go_wp2_with fail
  generalize hW : World.alloc w _ = W1
  have hn := below_new w (.cells #[.bool p.g, .slice p.A p.n p.c, .bool p.gd, .slice p.Ad p.nd p.cd] 27)
  rw [hW] at hn
  have hx : Rb W1 w.heap.size p := by rw [← hW]; exact Rb.new (q := p) Ia_0.out
  have B_1 := hI (below_chain B_0.out B_0.out.size hn)
  generalize hr : w.heap.size = r at *
  have HRr := hI hr
  clear hr
  have Xa_2 : Hid (Rb W1 r p) := hI hx
  clear hn hx hW B_0 Ia_0
  have C := rvalid2 Xa_2.out.sl
  rw [HV.out] at C
  refine C.mono ?_
  clear C
  rintro e w3 ⟨rfl, hb⟩
  have B_3 := hI (bch B_1.out HRr.out hb)
  have Xa_4 := hI (Xa_2.out.on hb)
  clear hb B_1 Xa_2
  obtain ⟨ka0, ka1, ka2, ka3⟩ := Xa_4.out.cs
  have la := Xa_4.out.lt
  go_wp2_with fail
  have C := riszero_any p.g p.A p.n p.c w3
  rw [HN.out.1] at C
  refine C.mono ?_
  clear C
  clear ka0 ka1 ka2 ka3 la
  rintro e w5 ⟨rfl, hb⟩
  have B_5 := hI (bch B_3.out HRr.out hb)
  have Xa_6 := hI (Xa_4.out.on hb)
  clear hb B_3 Xa_4
  obtain ⟨ka0, ka1, ka2, ka3⟩ := Xa_6.out.cs
  have la := Xa_6.out.lt
  have hg : p.g = false := HN.out.2
  rw [hg] at ka0
  go_wp2
  go_ret
  exact ⟨rfl, (by rw [HRr.out]; exact B_5.out)⟩
theorem rsign_q {p : RVal} {x : Rat} {w : World} (h : p.In w) (hx : rv p.o p.od = some x) : Calls Tryz.prog 38 #[.agg #[.bool p.g, .slice p.A p.n p.c, .bool p.gd, .slice p.Ad p.nd p.cd]] w (fun e w' => e = .returned (.int .i64 (x.num.sign)) ∧ Below w.heap.size w w') := by
  have o := (rv_some hx).1
  have l := ov_len0 h.1 (show ov p.g p.xs = some x.num from o)
  have s := ov_sign (show ov p.g p.xs = some x.num from o)
  have hv : (rv p.o p.od).isSome = true := by rw [hx]; rfl
  rcases Int.lt_trichotomy x.num 0 with k | k | k
  · rw [Int.sign_eq_neg_one_of_neg k]
    exact rsign_neg p w h hv ⟨by rw [l, decide_eq_false (by omega)], by rw [← s, decide_eq_true k]⟩
  · rw [k]
    exact rsign_zero p w h hv ⟨by rw [l, decide_eq_true k], trivial⟩
  · rw [Int.sign_eq_one_of_pos k]
    exact rsign_pos p w h hv ⟨by rw [l, decide_eq_false (by omega)], by rw [← s, decide_eq_false (by omega)]⟩
set_option linter.unusedSimpArgs false in
set_option maxRecDepth 20000 in
set_option maxHeartbeats 2000000 in
theorem rfloor_bad (p : RVal) (s : Int) (w : World) (ha : p.In w) (hv : (rv p.o p.od).isSome = false) :
    Calls Tryz.prog 34 #[.agg #[.bool p.g, .slice p.A p.n p.c, .bool p.gd, .slice p.Ad p.nd p.cd], .int .i64 s] w (RetZE 0 1 w) := by
  have HV := hI hv
  clear hv
  have Ia_0 := hI ha
  clear ha
  have B_0 : Hid (Below w.heap.size w w) := hI (Below.refl _ _)
  go_enter Tryz.func34, Tryz.ntmps34
  go_wp2_with fail
  generalize hW : World.alloc w _ = W1
  have hn := below_new w (.cells #[.bool p.g, .slice p.A p.n p.c, .bool p.gd, .slice p.Ad p.nd p.cd] 27)
  rw [hW] at hn
  have hz : W1.heap.size = w.heap.size + 1 := by rw [← hW]; simp
  have hx : Rb W1 w.heap.size p := by rw [← hW]; exact Rb.new (q := p) Ia_0.out
  have B_1 := hI (below_chain B_0.out B_0.out.size hn)
  generalize hr : w.heap.size = r at *
  have HRr := hI hr
  clear hr
  have Xa_2 : Hid (Rb W1 r p) := hI hx
  have HT2 := hz
  clear hn hx hz hW B_0 Ia_0
  generalize hW : World.alloc W1 _ = W3
  have hn := below_new W1 (.cells #[.bool false, .slice none 0 0] 24)
  rw [hW] at hn
  have hx : Ba W3 W1.heap.size false none 0 0 [] := by rw [← hW]; exact ⟨Bx.new W1 _ _ _ _, Sl.nil _ _⟩
  have hlt : r < W1.heap.size := Xa_2.out.lt
  have B_3 := hI (bch B_1.out HRr.out hn)
  have Xa_4 := hI (Xa_2.out.on hn)
  rw [HT2] at hx hlt
  have Ze_5 : Hid (Ba W3 (r + 1) false none 0 0 []) := hI hx
  clear hn hx hW hlt B_1 Xa_2
  clear HT2
  have C := rvalid2 Xa_4.out.sl
  rw [HV.out] at C
  refine C.mono ?_
  clear C
  rintro e w6 ⟨rfl, hb⟩
  have B_6 := hI (bch B_3.out HRr.out hb)
  have Xa_7 := hI (Xa_4.out.on hb)
  have Ze_8 := hI (Ze_5.out.on hb)
  clear hb B_3 Xa_4 Ze_5
  obtain ⟨ke0, ke1⟩ := Ze_8.out.cs
  obtain ⟨fe0, fe1⟩ := Ze_8.out.fs
  have le := Ze_8.out.bx.lt
  go_wp2
  clear ke0 ke1 fe0 fe1 le
  generalize hW : World.setCell (World.setCell w6 _ _) _ _ = W9
  have B_9 : Hid (Below r w W9) := by rw [← hW]; exact hI (below_ret B_6.out (by omega) _ _)
  have Xa_10 : Hid (Rb W9 r p) := by rw [← hW]; exact hI (Xa_7.out.aside Ze_8.out (by omega) _ _)
  have Ze_11 : Hid (Ba W9 (r + 1) false none 0 0 []) := by rw [← hW]; exact hI (Ze_8.out.stored (Sl.nil _ _) _)
  clear hW B_6 Xa_7 Ze_8
  obtain ⟨j0, j1⟩ := Ze_11.out.cs
  refine bodyPost_ret (v := .tuple #[.agg #[.bool false, .slice none 0 0], .int .i64 1]) (by simp [results, Tryz.results34, go_sem, j0, j1]) rfl ?_
  exact RetZE.of Ze_11.out rfl (by rw [HRr.out]; exact B_9.out)
set_option linter.unusedSimpArgs false in
set_option maxRecDepth 20000 in
set_option maxHeartbeats 2000000 in
theorem rfloor_big (p : RVal) (s : Int) (w : World) (ha : p.In w) (x : Rat) (ha2 : rv p.o p.od = some x) (hs : decide ((0 : Int) < s) = true ∧ -9223372036854775808 ≤ s ∧ s ≤ 9223372036854775807) (z er : Int) (hz : fitZ (shf x.num s) = z ∧ fitE (shf x.num s) = er) (he : (er != 0) = true) :
    Calls Tryz.prog 34 #[.agg #[.bool p.g, .slice p.A p.n p.c, .bool p.gd, .slice p.Ad p.nd p.cd], .int .i64 s] w (RetZE 0 er w) := by
  have Va := hI ha2
  have HS := hI hs
  have HZ := hI hz
  have HE := hI he
  clear ha2 hs hz he
  have Ia_0 := hI ha
  clear ha
  have B_0 : Hid (Below w.heap.size w w) := hI (Below.refl _ _)
  go_enter Tryz.func34, Tryz.ntmps34
  go_wp2_with fail
  generalize hW : World.alloc w _ = W1
  have hn := below_new w (.cells #[.bool p.g, .slice p.A p.n p.c, .bool p.gd, .slice p.Ad p.nd p.cd] 27)
  rw [hW] at hn
  have hz : W1.heap.size = w.heap.size + 1 := by rw [← hW]; simp
  have hx : Rb W1 w.heap.size p := by rw [← hW]; exact Rb.new (q := p) Ia_0.out
  have B_1 := hI (below_chain B_0.out B_0.out.size hn)
  generalize hr : w.heap.size = r at *
  have HRr := hI hr
  clear hr
  have Xa_2 : Hid (Rb W1 r p) := hI hx
  have HT2 := hz
  clear hn hx hz hW B_0 Ia_0
  generalize hW : World.alloc W1 _ = W3
  have hn := below_new W1 (.cells #[.bool false, .slice none 0 0] 24)
  rw [hW] at hn
  have hx : Ba W3 W1.heap.size false none 0 0 [] := by rw [← hW]; exact ⟨Bx.new W1 _ _ _ _, Sl.nil _ _⟩
  have hlt : r < W1.heap.size := Xa_2.out.lt
  have B_3 := hI (bch B_1.out HRr.out hn)
  have Xa_4 := hI (Xa_2.out.on hn)
  rw [HT2] at hx hlt
  have Ze_5 : Hid (Ba W3 (r + 1) false none 0 0 []) := hI hx
  clear hn hx hW hlt B_1 Xa_2
  clear HT2
  have C := rvalid2 Xa_4.out.sl
  rw [isSome_of Va.out] at C
  refine C.mono ?_
  clear C
  rintro e w6 ⟨rfl, hb⟩
  have B_6 := hI (bch B_3.out HRr.out hb)
  have Xa_7 := hI (Xa_4.out.on hb)
  have Ze_8 := hI (Ze_5.out.on hb)
  clear hb B_3 Xa_4 Ze_5
  have Jn_9 : Hid (Sl w6 w6.heap.size p.A p.n p.c p.xs) := hI Xa_7.out.sl.1
  have Vn : Hid (ov p.g p.xs = some x.num) := hI (rv_some Va.out).1
  have Vd : Hid (ov p.gd p.ys = some (x.den : Int)) := hI (rv_some Va.out).2
  have hs0 : decide ((0 : Int) < s) = true := HS.out.1
  obtain ⟨ka0, ka1, ka2, ka3⟩ := Xa_7.out.cs
  have la := Xa_7.out.lt
  go_wp2_with fail
  generalize hW : World.alloc w6 _ = W10
  have hn := below_new w6 (.cells #[.bool p.g, .slice p.A p.n p.c] 24)
  rw [hW] at hn
  have hx : Ba W10 w6.heap.size p.g p.A p.n p.c p.xs := by rw [← hW]; exact ⟨Bx.new w6 _ _ _ _, Jn_9.out.on (below_new _ _)⟩
  have hlt : (r + 1) < w6.heap.size := Ze_8.out.bx.lt
  have B_10 := hI (bch B_6.out HRr.out hn)
  have Xa_11 := hI (Xa_7.out.on hn)
  have Ze_12 := hI (Ze_8.out.on hn)
  generalize hbb : w6.heap.size = b1 at *
  clear hbb
  have Zn_13 : Hid (Ba W10 b1 p.g p.A p.n p.c p.xs) := hI hx
  have O13 := hI hlt
  clear hn hx hW hlt B_6 Xa_7 Ze_8 Jn_9
  refine (rshift_z Zn_13.out.sl Vn.out s _ _ HS.out.2.1 HS.out.2.2 HZ.out).mono ?_
  clear ka0 ka1 ka2 ka3 la
  rintro e w14 ⟨gm, Am, nm, cm, xsm, rfl, hs, ho, hb⟩
  have B_14 := hI (bch B_10.out HRr.out hb)
  have Xa_15 := hI (Xa_11.out.on hb)
  have Ze_16 := hI (Ze_12.out.on hb)
  have Zn_17 := hI (Zn_13.out.on hb)
  have Jm_18 : Hid (Sl w14 w14.heap.size Am nm cm xsm) := hI hs
  clear hb B_10 Xa_11 Ze_12 Zn_13 hs
  have Vm := hI ho
  clear ho
  have hE : (er != 0) = true := HE.out
  clear Xa_15 Zn_17 Jm_18
  obtain ⟨ke0, ke1⟩ := Ze_16.out.cs
  obtain ⟨fe0, fe1⟩ := Ze_16.out.fs
  have le := Ze_16.out.bx.lt
  go_wp2
  clear ke0 ke1 fe0 fe1 le
  generalize hW : World.setCell (World.setCell w14 _ _) _ _ = W19
  have B_19 : Hid (Below r w W19) := by rw [← hW]; exact hI (below_ret B_14.out (by omega) _ _)
  have Ze_20 : Hid (Ba W19 (r + 1) false none 0 0 []) := by rw [← hW]; exact hI (Ze_16.out.stored (Sl.nil _ _) _)
  clear hW B_14 Ze_16
  generalize hW : World.alloc W19 _ = W21
  have hn := below_new W19 (.cells #[.bool gm, .slice Am nm cm] 24)
  rw [hW] at hn
  have B_21 := hI (bch B_19.out HRr.out hn)
  have Ze_22 := hI (Ze_20.out.on hn)
  clear hn hW B_19 Ze_20
  obtain ⟨j0, j1⟩ := Ze_22.out.cs
  refine bodyPost_ret (v := .tuple #[.agg #[.bool false, .slice none 0 0], .int .i64 er]) (by simp [results, Tryz.results34, go_sem, j0, j1]) rfl ?_
  exact RetZE.of Ze_22.out rfl (by rw [HRr.out]; exact B_21.out)
set_option linter.unusedSimpArgs false in
set_option maxRecDepth 20000 in
set_option maxHeartbeats 2000000 in
theorem rfloor_pos (p : RVal) (s : Int) (w : World) (ha : p.In w) (x : Rat) (ha2 : rv p.o p.od = some x) (hs : decide ((0 : Int) < s) = true ∧ -9223372036854775808 ≤ s ∧ s ≤ 9223372036854775807) (zs z : Int) (hz : fitZ (shf x.num s) = zs ∧ fitE (shf x.num s) = 0) (hd : (x.den : Int) ≠ 0 ∧ fq zs (x.den : Int) = z ∧ z.natAbs < BIG ∧ True ∧ decide ((0 : Int) ≤ s) = true) :
    Calls Tryz.prog 34 #[.agg #[.bool p.g, .slice p.A p.n p.c, .bool p.gd, .slice p.Ad p.nd p.cd], .int .i64 s] w (RetZE z 0 w) := by
  have Va := hI ha2
  have HS := hI hs
  have HZ := hI hz
  have HD := hI hd
  clear ha2 hs hz hd
  have Ia_0 := hI ha
  clear ha
  have B_0 : Hid (Below w.heap.size w w) := hI (Below.refl _ _)
  go_enter Tryz.func34, Tryz.ntmps34
  go_wp2_with fail
  generalize hW : World.alloc w _ = W1
  have hn := below_new w (.cells #[.bool p.g, .slice p.A p.n p.c, .bool p.gd, .slice p.Ad p.nd p.cd] 27)
  rw [hW] at hn
  have hz : W1.heap.size = w.heap.size + 1 := by rw [← hW]; simp
  have hx : Rb W1 w.heap.size p := by rw [← hW]; exact Rb.new (q := p) Ia_0.out
  have B_1 := hI (below_chain B_0.out B_0.out.size hn)
  generalize hr : w.heap.size = r at *
  have HRr := hI hr
  clear hr
  have Xa_2 : Hid (Rb W1 r p) := hI hx
  have HT2 := hz
  clear hn hx hz hW B_0 Ia_0
  generalize hW : World.alloc W1 _ = W3
  have hn := below_new W1 (.cells #[.bool false, .slice none 0 0] 24)
  rw [hW] at hn
  have hx : Ba W3 W1.heap.size false none 0 0 [] := by rw [← hW]; exact ⟨Bx.new W1 _ _ _ _, Sl.nil _ _⟩
  have hlt : r < W1.heap.size := Xa_2.out.lt
  have B_3 := hI (bch B_1.out HRr.out hn)
  have Xa_4 := hI (Xa_2.out.on hn)
  rw [HT2] at hx hlt
  have Ze_5 : Hid (Ba W3 (r + 1) false none 0 0 []) := hI hx
  clear hn hx hW hlt B_1 Xa_2
  clear HT2
  have C := rvalid2 Xa_4.out.sl
  rw [isSome_of Va.out] at C
  refine C.mono ?_
  clear C
  rintro e w6 ⟨rfl, hb⟩
  have B_6 := hI (bch B_3.out HRr.out hb)
  have Xa_7 := hI (Xa_4.out.on hb)
  have Ze_8 := hI (Ze_5.out.on hb)
  clear hb B_3 Xa_4 Ze_5
  have Jn_9 : Hid (Sl w6 w6.heap.size p.A p.n p.c p.xs) := hI Xa_7.out.sl.1
  have Vn : Hid (ov p.g p.xs = some x.num) := hI (rv_some Va.out).1
  have Vd : Hid (ov p.gd p.ys = some (x.den : Int)) := hI (rv_some Va.out).2
  have hs0 : decide ((0 : Int) < s) = true := HS.out.1
  obtain ⟨ka0, ka1, ka2, ka3⟩ := Xa_7.out.cs
  have la := Xa_7.out.lt
  go_wp2_with fail
  generalize hW : World.alloc w6 _ = W10
  have hn := below_new w6 (.cells #[.bool p.g, .slice p.A p.n p.c] 24)
  rw [hW] at hn
  have hx : Ba W10 w6.heap.size p.g p.A p.n p.c p.xs := by rw [← hW]; exact ⟨Bx.new w6 _ _ _ _, Jn_9.out.on (below_new _ _)⟩
  have hlt : (r + 1) < w6.heap.size := Ze_8.out.bx.lt
  have B_10 := hI (bch B_6.out HRr.out hn)
  have Xa_11 := hI (Xa_7.out.on hn)
  have Ze_12 := hI (Ze_8.out.on hn)
  generalize hbb : w6.heap.size = b1 at *
  clear hbb
  have Zn_13 : Hid (Ba W10 b1 p.g p.A p.n p.c p.xs) := hI hx
  have O13 := hI hlt
  clear hn hx hW hlt B_6 Xa_7 Ze_8 Jn_9
  refine (rshift_z Zn_13.out.sl Vn.out s _ _ HS.out.2.1 HS.out.2.2 HZ.out).mono ?_
  clear ka0 ka1 ka2 ka3 la
  rintro e w14 ⟨gm, Am, nm, cm, xsm, rfl, hs, ho, hb⟩
  have B_14 := hI (bch B_10.out HRr.out hb)
  have Xa_15 := hI (Xa_11.out.on hb)
  have Ze_16 := hI (Ze_12.out.on hb)
  have Zn_17 := hI (Zn_13.out.on hb)
  have Jm_18 : Hid (Sl w14 w14.heap.size Am nm cm xsm) := hI hs
  clear hb B_10 Xa_11 Ze_12 Zn_13 hs
  have Vm := hI ho
  clear ho
  have hs1 : decide ((0 : Int) ≤ s) = true := HD.out.2.2.2.2
  obtain ⟨kn0, kn1⟩ := Zn_17.out.cs
  obtain ⟨fn0, fn1⟩ := Zn_17.out.fs
  have ln := Zn_17.out.bx.lt
  obtain ⟨ka0, ka1, ka2, ka3⟩ := Xa_15.out.cs
  obtain ⟨fa0, fa1, fa2, fa3⟩ := Xa_15.out.fs
  have la := Xa_15.out.lt
  have nna : b1 ≠ r := by have := O13.out; omega
  have nan := nna.symm
  go_wp2_with fail
  clear kn0 kn1 fn0 fn1 ln ka0 ka1 ka2 ka3 fa0 fa1 fa2 fa3 la nna nan
  generalize hW : World.setCell (World.setCell w14 _ _) _ _ = W19
  have B_19 : Hid (Below r w W19) := by rw [← hW]; exact hI (below_ret B_14.out (by have := O13.out; omega) _ _)
  have Xa_20 : Hid (Rb W19 r p) := by rw [← hW]; exact hI (Xa_15.out.aside Zn_17.out (by have := O13.out; omega) _ _)
  have Ze_21 : Hid (Ba W19 (r + 1) false none 0 0 []) := by rw [← hW]; exact hI (Ze_16.out.aside Zn_17.out (by have := O13.out; omega) _ _)
  have Zn_22 : Hid (Ba W19 b1 gm Am nm cm xsm) := by rw [← hW]; exact hI (Zn_17.out.stored Jm_18.out _)
  clear hW B_14 Xa_15 Ze_16 Zn_17 Jm_18
  generalize hW : World.alloc W19 _ = W23
  have hn := below_new W19 (.cells #[.bool gm, .slice Am nm cm] 24)
  rw [hW] at hn
  have B_23 := hI (bch B_19.out HRr.out hn)
  have Xa_24 := hI (Xa_20.out.on hn)
  have Ze_25 := hI (Ze_21.out.on hn)
  have Zn_26 := hI (Zn_22.out.on hn)
  clear hn hW B_19 Xa_20 Ze_21 Zn_22
  refine (rdivMod_z Zn_26.out.sl Xa_24.out.sl.2 Vm.out Vd.out HD.out.1 _ _ HD.out.2.1 rfl HD.out.2.2.1).mono ?_
  rintro e w27 ⟨gq, Aq, nq, cq, xsq, gy, Ay, ny, cy, xsy, rfl, hs, ho, hs2, ho2, hb⟩
  have B_27 := hI (bch B_23.out HRr.out hb)
  have Xa_28 := hI (Xa_24.out.on hb)
  have Ze_29 := hI (Ze_25.out.on hb)
  have Zn_30 := hI (Zn_26.out.on hb)
  have Jq_31 : Hid (Sl w27 w27.heap.size Aq nq cq xsq) := hI hs
  have Jy_32 : Hid (Sl w27 w27.heap.size Ay ny cy xsy) := hI hs2
  clear hb B_23 Xa_24 Ze_25 Zn_26 hs hs2
  have Vq := hI ho
  have Vy := hI ho2
  clear ho ho2
  obtain ⟨ke0, ke1⟩ := Ze_29.out.cs
  obtain ⟨fe0, fe1⟩ := Ze_29.out.fs
  have le := Ze_29.out.bx.lt
  clear ke0 ke1 fe0 fe1 le
  clear Xa_28 Zn_30
  obtain ⟨ke0, ke1⟩ := ((Ze_29.out.on (below_new w27 (.cells #[.bool gq, .slice Aq nq cq] 24))).on (below_new (w27.alloc (.cells #[.bool gq, .slice Aq nq cq] 24)) (.cells #[.bool gy, .slice Ay ny cy] 24))).cs
  obtain ⟨fe0, fe1⟩ := ((Ze_29.out.on (below_new w27 (.cells #[.bool gq, .slice Aq nq cq] 24))).on (below_new (w27.alloc (.cells #[.bool gq, .slice Aq nq cq] 24)) (.cells #[.bool gy, .slice Ay ny cy] 24))).fs
  have le := Ze_29.out.bx.lt
  go_wp2
  clear ke0 ke1 fe0 fe1 le
  generalize hW : World.alloc w27 _ = W33
  have hn := below_new w27 (.cells #[.bool gq, .slice Aq nq cq] 24)
  rw [hW] at hn
  have hz : W33.heap.size = w27.heap.size + 1 := by rw [← hW]; simp
  have hx : Ba W33 w27.heap.size gq Aq nq cq xsq := by rw [← hW]; exact ⟨Bx.new w27 _ _ _ _, Jq_31.out.on (below_new _ _)⟩
  have hlt : (r + 1) < w27.heap.size := Ze_29.out.bx.lt
  have B_33 := hI (bch B_27.out HRr.out hn)
  have Ze_34 := hI (Ze_29.out.on hn)
  have Jy_35 := hI (Jy_32.out.on hn)
  generalize hbb : w27.heap.size = b2 at *
  clear hbb
  have Zq_36 : Hid (Ba W33 b2 gq Aq nq cq xsq) := hI hx
  have HT36 := hz
  have O36 := hI hlt
  clear hn hx hz hW hlt B_27 Ze_29 Jy_32 Jq_31
  generalize hW : World.alloc W33 _ = W37
  have hn := below_new W33 (.cells #[.bool gy, .slice Ay ny cy] 24)
  rw [hW] at hn
  have hx : Ba W37 W33.heap.size gy Ay ny cy xsy := by rw [← hW]; exact ⟨Bx.new W33 _ _ _ _, Jy_35.out.on (below_new _ _)⟩
  have hlt : b2 < W33.heap.size := Zq_36.out.bx.lt
  have B_37 := hI (bch B_33.out HRr.out hn)
  have Ze_38 := hI (Ze_34.out.on hn)
  have Zq_39 := hI (Zq_36.out.on hn)
  rw [HT36] at hx hlt
  have Zy_40 : Hid (Ba W37 (b2 + 1) gy Ay ny cy xsy) := hI hx
  clear hn hx hW hlt B_33 Ze_34 Zq_36 Jy_35
  have Jk_41 : Hid (Sl W37 W37.heap.size Aq nq cq xsq) := hI Zq_39.out.sl
  generalize hW : World.setCell (World.setCell W37 _ _) _ _ = W42
  have B_42 : Hid (Below r w W42) := by rw [← hW]; exact hI (below_ret B_37.out (by omega) _ _)
  have Ze_43 : Hid (Ba W42 (r + 1) gq Aq nq cq xsq) := by rw [← hW]; exact hI (Ze_38.out.stored Jk_41.out _)
  have Zq_44 : Hid (Ba W42 b2 gq Aq nq cq xsq) := by rw [← hW]; exact hI (Zq_39.out.aside Ze_38.out (by have := O13.out; have := O36.out; omega) _ _)
  have Zy_45 : Hid (Ba W42 (b2 + 1) gy Ay ny cy xsy) := by rw [← hW]; exact hI (Zy_40.out.aside Ze_38.out (by have := O13.out; have := O36.out; omega) _ _)
  clear hW B_37 Ze_38 Zq_39 Zy_40 Jk_41
  obtain ⟨j0, j1⟩ := Ze_43.out.cs
  refine bodyPost_ret (v := .tuple #[.agg #[.bool gq, .slice Aq nq cq], .int .i64 0]) (by simp [results, Tryz.results34, go_sem, j0, j1]) rfl ?_
  exact RetZE.of Ze_43.out Vq.out (by rw [HRr.out]; exact B_42.out)
set_option linter.unusedSimpArgs false in
set_option maxRecDepth 20000 in
set_option maxHeartbeats 2000000 in
theorem rfloor_zero (p : RVal) (s : Int) (w : World) (ha : p.In w) (x : Rat) (ha2 : rv p.o p.od = some x) (hs : decide ((0 : Int) < s) = false ∧ decide ((0 : Int) ≤ s) = true) (z : Int) (hd : (x.den : Int) ≠ 0 ∧ fq x.num (x.den : Int) = z ∧ z.natAbs < BIG) :
    Calls Tryz.prog 34 #[.agg #[.bool p.g, .slice p.A p.n p.c, .bool p.gd, .slice p.Ad p.nd p.cd], .int .i64 s] w (RetZE z 0 w) := by
  have Va := hI ha2
  have HS := hI hs
  have HD := hI hd
  clear ha2 hs hd
  have Ia_0 := hI ha
  clear ha
  have B_0 : Hid (Below w.heap.size w w) := hI (Below.refl _ _)
  go_enter Tryz.func34, Tryz.ntmps34
  go_wp2_with fail
  generalize hW : World.alloc w _ = W1
  have hn := below_new w (.cells #[.bool p.g, .slice p.A p.n p.c, .bool p.gd, .slice p.Ad p.nd p.cd] 27)
  rw [hW] at hn
  have hz : W1.heap.size = w.heap.size + 1 := by rw [← hW]; simp
  have hx : Rb W1 w.heap.size p := by rw [← hW]; exact Rb.new (q := p) Ia_0.out
  have B_1 := hI (below_chain B_0.out B_0.out.size hn)
  generalize hr : w.heap.size = r at *
  have HRr := hI hr
  clear hr
  have Xa_2 : Hid (Rb W1 r p) := hI hx
  have HT2 := hz
  clear hn hx hz hW B_0 Ia_0
  generalize hW : World.alloc W1 _ = W3
  have hn := below_new W1 (.cells #[.bool false, .slice none 0 0] 24)
  rw [hW] at hn
  have hx : Ba W3 W1.heap.size false none 0 0 [] := by rw [← hW]; exact ⟨Bx.new W1 _ _ _ _, Sl.nil _ _⟩
  have hlt : r < W1.heap.size := Xa_2.out.lt
  have B_3 := hI (bch B_1.out HRr.out hn)
  have Xa_4 := hI (Xa_2.out.on hn)
  rw [HT2] at hx hlt
  have Ze_5 : Hid (Ba W3 (r + 1) false none 0 0 []) := hI hx
  clear hn hx hW hlt B_1 Xa_2
  clear HT2
  have C := rvalid2 Xa_4.out.sl
  rw [isSome_of Va.out] at C
  refine C.mono ?_
  clear C
  rintro e w6 ⟨rfl, hb⟩
  have B_6 := hI (bch B_3.out HRr.out hb)
  have Xa_7 := hI (Xa_4.out.on hb)
  have Ze_8 := hI (Ze_5.out.on hb)
  clear hb B_3 Xa_4 Ze_5
  have Jn_9 : Hid (Sl w6 w6.heap.size p.A p.n p.c p.xs) := hI Xa_7.out.sl.1
  have Vn : Hid (ov p.g p.xs = some x.num) := hI (rv_some Va.out).1
  have Vd : Hid (ov p.gd p.ys = some (x.den : Int)) := hI (rv_some Va.out).2
  have hs0 : decide ((0 : Int) < s) = false := HS.out.1
  have hs1 : decide ((0 : Int) ≤ s) = true := HS.out.2
  obtain ⟨ka0, ka1, ka2, ka3⟩ := Xa_7.out.cs
  have la := Xa_7.out.lt
  obtain ⟨va0, va1, va2, va3⟩ := (Xa_7.out.on (below_new w6 (.cells #[.bool p.g, .slice p.A p.n p.c] 24))).cs
  go_wp2_with fail
  generalize hW : World.alloc w6 _ = W10
  have hn := below_new w6 (.cells #[.bool p.g, .slice p.A p.n p.c] 24)
  rw [hW] at hn
  have hx : Ba W10 w6.heap.size p.g p.A p.n p.c p.xs := by rw [← hW]; exact ⟨Bx.new w6 _ _ _ _, Jn_9.out.on (below_new _ _)⟩
  have hlt : (r + 1) < w6.heap.size := Ze_8.out.bx.lt
  have B_10 := hI (bch B_6.out HRr.out hn)
  have Xa_11 := hI (Xa_7.out.on hn)
  have Ze_12 := hI (Ze_8.out.on hn)
  generalize hbb : w6.heap.size = b1 at *
  clear hbb
  have Zn_13 : Hid (Ba W10 b1 p.g p.A p.n p.c p.xs) := hI hx
  have O13 := hI hlt
  clear hn hx hW hlt B_6 Xa_7 Ze_8 Jn_9
  refine (rdivMod_z Zn_13.out.sl Xa_11.out.sl.2 Vn.out Vd.out HD.out.1 _ _ HD.out.2.1 rfl HD.out.2.2).mono ?_
  clear ka0 ka1 ka2 ka3 la va0 va1 va2 va3
  rintro e w14 ⟨gq, Aq, nq, cq, xsq, gy, Ay, ny, cy, xsy, rfl, hs, ho, hs2, ho2, hb⟩
  have B_14 := hI (bch B_10.out HRr.out hb)
  have Xa_15 := hI (Xa_11.out.on hb)
  have Ze_16 := hI (Ze_12.out.on hb)
  have Zn_17 := hI (Zn_13.out.on hb)
  have Jq_18 : Hid (Sl w14 w14.heap.size Aq nq cq xsq) := hI hs
  have Jy_19 : Hid (Sl w14 w14.heap.size Ay ny cy xsy) := hI hs2
  clear hb B_10 Xa_11 Ze_12 Zn_13 hs hs2
  have Vq := hI ho
  have Vy := hI ho2
  clear ho ho2
  clear Xa_15 Zn_17
  obtain ⟨ke0, ke1⟩ := ((Ze_16.out.on (below_new w14 (.cells #[.bool gq, .slice Aq nq cq] 24))).on (below_new (w14.alloc (.cells #[.bool gq, .slice Aq nq cq] 24)) (.cells #[.bool gy, .slice Ay ny cy] 24))).cs
  obtain ⟨fe0, fe1⟩ := ((Ze_16.out.on (below_new w14 (.cells #[.bool gq, .slice Aq nq cq] 24))).on (below_new (w14.alloc (.cells #[.bool gq, .slice Aq nq cq] 24)) (.cells #[.bool gy, .slice Ay ny cy] 24))).fs
  have le := Ze_16.out.bx.lt
  go_wp2
  clear ke0 ke1 fe0 fe1 le
  generalize hW : World.alloc w14 _ = W20
  have hn := below_new w14 (.cells #[.bool gq, .slice Aq nq cq] 24)
  rw [hW] at hn
  have hz : W20.heap.size = w14.heap.size + 1 := by rw [← hW]; simp
  have hx : Ba W20 w14.heap.size gq Aq nq cq xsq := by rw [← hW]; exact ⟨Bx.new w14 _ _ _ _, Jq_18.out.on (below_new _ _)⟩
  have hlt : (r + 1) < w14.heap.size := Ze_16.out.bx.lt
  have B_20 := hI (bch B_14.out HRr.out hn)
  have Ze_21 := hI (Ze_16.out.on hn)
  have Jy_22 := hI (Jy_19.out.on hn)
  generalize hbb : w14.heap.size = b2 at *
  clear hbb
  have Zq_23 : Hid (Ba W20 b2 gq Aq nq cq xsq) := hI hx
  have HT23 := hz
  have O23 := hI hlt
  clear hn hx hz hW hlt B_14 Ze_16 Jy_19 Jq_18
  generalize hW : World.alloc W20 _ = W24
  have hn := below_new W20 (.cells #[.bool gy, .slice Ay ny cy] 24)
  rw [hW] at hn
  have hx : Ba W24 W20.heap.size gy Ay ny cy xsy := by rw [← hW]; exact ⟨Bx.new W20 _ _ _ _, Jy_22.out.on (below_new _ _)⟩
  have hlt : b2 < W20.heap.size := Zq_23.out.bx.lt
  have B_24 := hI (bch B_20.out HRr.out hn)
  have Ze_25 := hI (Ze_21.out.on hn)
  have Zq_26 := hI (Zq_23.out.on hn)
  rw [HT23] at hx hlt
  have Zy_27 : Hid (Ba W24 (b2 + 1) gy Ay ny cy xsy) := hI hx
  clear hn hx hW hlt B_20 Ze_21 Zq_23 Jy_22
  have Jk_28 : Hid (Sl W24 W24.heap.size Aq nq cq xsq) := hI Zq_26.out.sl
  generalize hW : World.setCell (World.setCell W24 _ _) _ _ = W29
  have B_29 : Hid (Below r w W29) := by rw [← hW]; exact hI (below_ret B_24.out (by omega) _ _)
  have Ze_30 : Hid (Ba W29 (r + 1) gq Aq nq cq xsq) := by rw [← hW]; exact hI (Ze_25.out.stored Jk_28.out _)
  have Zq_31 : Hid (Ba W29 b2 gq Aq nq cq xsq) := by rw [← hW]; exact hI (Zq_26.out.aside Ze_25.out (by have := O13.out; have := O23.out; omega) _ _)
  have Zy_32 : Hid (Ba W29 (b2 + 1) gy Ay ny cy xsy) := by rw [← hW]; exact hI (Zy_27.out.aside Ze_25.out (by have := O13.out; have := O23.out; omega) _ _)
  clear hW B_24 Ze_25 Zq_26 Zy_27 Jk_28
  obtain ⟨j0, j1⟩ := Ze_30.out.cs
  refine bodyPost_ret (v := .tuple #[.agg #[.bool gq, .slice Aq nq cq], .int .i64 0]) (by simp [results, Tryz.results34, go_sem, j0, j1]) rfl ?_
  exact RetZE.of Ze_30.out Vq.out (by rw [HRr.out]; exact B_29.out)
set_option linter.unusedSimpArgs false in
set_option maxRecDepth 20000 in
set_option maxHeartbeats 2000000 in
theorem rfloor_neg (p : RVal) (s : Int) (w : World) (ha : p.In w) (x : Rat) (ha2 : rv p.o p.od = some x) (hs : decide ((0 : Int) < s) = false ∧ decide ((0 : Int) ≤ s) = false ∧ -9223372036854775808 ≤ s ∧ s ≤ 9223372036854775807) (z zk er : Int) (hd : (x.den : Int) ≠ 0 ∧ fq x.num (x.den : Int) = z ∧ z.natAbs < BIG) (hz : fitZ (shf z s) = zk ∧ fitE (shf z s) = er) :
    Calls Tryz.prog 34 #[.agg #[.bool p.g, .slice p.A p.n p.c, .bool p.gd, .slice p.Ad p.nd p.cd], .int .i64 s] w (RetZE zk er w) := by
  have Va := hI ha2
  have HS := hI hs
  have HD := hI hd
  have HZ := hI hz
  clear ha2 hs hd hz
  have Ia_0 := hI ha
  clear ha
  have B_0 : Hid (Below w.heap.size w w) := hI (Below.refl _ _)
  go_enter Tryz.func34, Tryz.ntmps34
  go_wp2_with fail
  generalize hW : World.alloc w _ = W1
  have hn := below_new w (.cells #[.bool p.g, .slice p.A p.n p.c, .bool p.gd, .slice p.Ad p.nd p.cd] 27)
  rw [hW] at hn
  have hz : W1.heap.size = w.heap.size + 1 := by rw [← hW]; simp
  have hx : Rb W1 w.heap.size p := by rw [← hW]; exact Rb.new (q := p) Ia_0.out
  have B_1 := hI (below_chain B_0.out B_0.out.size hn)
  generalize hr : w.heap.size = r at *
  have HRr := hI hr
  clear hr
  have Xa_2 : Hid (Rb W1 r p) := hI hx
  have HT2 := hz
  clear hn hx hz hW B_0 Ia_0
  generalize hW : World.alloc W1 _ = W3
  have hn := below_new W1 (.cells #[.bool false, .slice none 0 0] 24)
  rw [hW] at hn
  have hx : Ba W3 W1.heap.size false none 0 0 [] := by rw [← hW]; exact ⟨Bx.new W1 _ _ _ _, Sl.nil _ _⟩
  have hlt : r < W1.heap.size := Xa_2.out.lt
  have B_3 := hI (bch B_1.out HRr.out hn)
  have Xa_4 := hI (Xa_2.out.on hn)
  rw [HT2] at hx hlt
  have Ze_5 : Hid (Ba W3 (r + 1) false none 0 0 []) := hI hx
  clear hn hx hW hlt B_1 Xa_2
  clear HT2
  have C := rvalid2 Xa_4.out.sl
  rw [isSome_of Va.out] at C
  refine C.mono ?_
  clear C
  rintro e w6 ⟨rfl, hb⟩
  have B_6 := hI (bch B_3.out HRr.out hb)
  have Xa_7 := hI (Xa_4.out.on hb)
  have Ze_8 := hI (Ze_5.out.on hb)
  clear hb B_3 Xa_4 Ze_5
  have Jn_9 : Hid (Sl w6 w6.heap.size p.A p.n p.c p.xs) := hI Xa_7.out.sl.1
  have Vn : Hid (ov p.g p.xs = some x.num) := hI (rv_some Va.out).1
  have Vd : Hid (ov p.gd p.ys = some (x.den : Int)) := hI (rv_some Va.out).2
  have hs0 : decide ((0 : Int) < s) = false := HS.out.1
  have hs1 : decide ((0 : Int) ≤ s) = false := HS.out.2.1
  obtain ⟨ka0, ka1, ka2, ka3⟩ := Xa_7.out.cs
  have la := Xa_7.out.lt
  obtain ⟨va0, va1, va2, va3⟩ := (Xa_7.out.on (below_new w6 (.cells #[.bool p.g, .slice p.A p.n p.c] 24))).cs
  go_wp2_with fail
  generalize hW : World.alloc w6 _ = W10
  have hn := below_new w6 (.cells #[.bool p.g, .slice p.A p.n p.c] 24)
  rw [hW] at hn
  have hx : Ba W10 w6.heap.size p.g p.A p.n p.c p.xs := by rw [← hW]; exact ⟨Bx.new w6 _ _ _ _, Jn_9.out.on (below_new _ _)⟩
  have hlt : (r + 1) < w6.heap.size := Ze_8.out.bx.lt
  have B_10 := hI (bch B_6.out HRr.out hn)
  have Xa_11 := hI (Xa_7.out.on hn)
  have Ze_12 := hI (Ze_8.out.on hn)
  generalize hbb : w6.heap.size = b1 at *
  clear hbb
  have Zn_13 : Hid (Ba W10 b1 p.g p.A p.n p.c p.xs) := hI hx
  have O13 := hI hlt
  clear hn hx hW hlt B_6 Xa_7 Ze_8 Jn_9
  refine (rdivMod_z Zn_13.out.sl Xa_11.out.sl.2 Vn.out Vd.out HD.out.1 _ _ HD.out.2.1 rfl HD.out.2.2).mono ?_
  clear ka0 ka1 ka2 ka3 la va0 va1 va2 va3
  rintro e w14 ⟨gq, Aq, nq, cq, xsq, gy, Ay, ny, cy, xsy, rfl, hs, ho, hs2, ho2, hb⟩
  have B_14 := hI (bch B_10.out HRr.out hb)
  have Xa_15 := hI (Xa_11.out.on hb)
  have Ze_16 := hI (Ze_12.out.on hb)
  have Zn_17 := hI (Zn_13.out.on hb)
  have Jq_18 : Hid (Sl w14 w14.heap.size Aq nq cq xsq) := hI hs
  have Jy_19 : Hid (Sl w14 w14.heap.size Ay ny cy xsy) := hI hs2
  clear hb B_10 Xa_11 Ze_12 Zn_13 hs hs2
  have Vq := hI ho
  have Vy := hI ho2
  clear ho ho2
  clear Xa_15 Zn_17
  go_wp2_with fail
  generalize hW : World.alloc w14 _ = W20
  have hn := below_new w14 (.cells #[.bool gq, .slice Aq nq cq] 24)
  rw [hW] at hn
  have hz : W20.heap.size = w14.heap.size + 1 := by rw [← hW]; simp
  have hx : Ba W20 w14.heap.size gq Aq nq cq xsq := by rw [← hW]; exact ⟨Bx.new w14 _ _ _ _, Jq_18.out.on (below_new _ _)⟩
  have hlt : (r + 1) < w14.heap.size := Ze_16.out.bx.lt
  have B_20 := hI (bch B_14.out HRr.out hn)
  have Ze_21 := hI (Ze_16.out.on hn)
  have Jy_22 := hI (Jy_19.out.on hn)
  generalize hbb : w14.heap.size = b2 at *
  clear hbb
  have Zq_23 : Hid (Ba W20 b2 gq Aq nq cq xsq) := hI hx
  have HT23 := hz
  have O23 := hI hlt
  clear hn hx hz hW hlt B_14 Ze_16 Jy_19 Jq_18
  generalize hW : World.alloc W20 _ = W24
  have hn := below_new W20 (.cells #[.bool gy, .slice Ay ny cy] 24)
  rw [hW] at hn
  have hx : Ba W24 W20.heap.size gy Ay ny cy xsy := by rw [← hW]; exact ⟨Bx.new W20 _ _ _ _, Jy_22.out.on (below_new _ _)⟩
  have hlt : b2 < W20.heap.size := Zq_23.out.bx.lt
  have B_24 := hI (bch B_20.out HRr.out hn)
  have Ze_25 := hI (Ze_21.out.on hn)
  have Zq_26 := hI (Zq_23.out.on hn)
  rw [HT23] at hx hlt
  have Zy_27 : Hid (Ba W24 (b2 + 1) gy Ay ny cy xsy) := hI hx
  clear hn hx hW hlt B_20 Ze_21 Zq_23 Jy_22
  clear HT23
  refine (rshift_z Zq_26.out.sl Vq.out s _ _ HS.out.2.2.1 HS.out.2.2.2 HZ.out).mono ?_
  rintro e w28 ⟨gk, Ak, nk, ck, xsk, rfl, hs, ho, hb⟩
  have B_28 := hI (bch B_24.out HRr.out hb)
  have Ze_29 := hI (Ze_25.out.on hb)
  have Zq_30 := hI (Zq_26.out.on hb)
  have Zy_31 := hI (Zy_27.out.on hb)
  have Jk_32 : Hid (Sl w28 w28.heap.size Ak nk ck xsk) := hI hs
  clear hb B_24 Ze_25 Zq_26 Zy_27 hs
  have Vk := hI ho
  clear ho
  clear Zq_30 Zy_31
  obtain ⟨ke0, ke1⟩ := Ze_29.out.cs
  obtain ⟨fe0, fe1⟩ := Ze_29.out.fs
  have le := Ze_29.out.bx.lt
  go_wp2
  clear ke0 ke1 fe0 fe1 le
  generalize hW : World.setCell (World.setCell w28 _ _) _ _ = W33
  have B_33 : Hid (Below r w W33) := by rw [← hW]; exact hI (below_ret B_28.out (by omega) _ _)
  have Ze_34 : Hid (Ba W33 (r + 1) gk Ak nk ck xsk) := by rw [← hW]; exact hI (Ze_29.out.stored Jk_32.out _)
  clear hW B_28 Ze_29 Jk_32
  obtain ⟨j0, j1⟩ := Ze_34.out.cs
  refine bodyPost_ret (v := .tuple #[.agg #[.bool gk, .slice Ak nk ck], .int .i64 er]) (by simp [results, Tryz.results34, go_sem, j0, j1]) rfl ?_
  exact RetZE.of Ze_34.out Vk.out (by rw [HRr.out]; exact B_33.out)
set_option linter.unusedSimpArgs false in
set_option maxRecDepth 20000 in
set_option maxHeartbeats 2000000 in
theorem rsqq_bad (p : RVal) (w : World) (ha : p.In w) (hv : (rv p.o p.od).isSome = false) :
    Calls Tryz.prog 36 #[.agg #[.bool p.g, .slice p.A p.n p.c, .bool p.gd, .slice p.Ad p.nd p.cd]] w (RetRB 0 0 false 1 w) := by
  have HV := hI hv
  clear hv
  have Ia_0 := hI ha
  clear ha
  have B_0 : Hid (Below w.heap.size w w) := hI (Below.refl _ _)
  go_enter Tryz.func36, Tryz.ntmps36
  go_wp2_with fail
  generalize hW : World.alloc w _ = W1
  have hn := below_new w (.cells #[.bool p.g, .slice p.A p.n p.c, .bool p.gd, .slice p.Ad p.nd p.cd] 27)
  rw [hW] at hn
  have hz : W1.heap.size = w.heap.size + 1 := by rw [← hW]; simp
  have hx : Rb W1 w.heap.size p := by rw [← hW]; exact Rb.new (q := p) Ia_0.out
  have B_1 := hI (below_chain B_0.out B_0.out.size hn)
  generalize hr : w.heap.size = r at *
  have HRr := hI hr
  clear hr
  have Xa_2 : Hid (Rb W1 r p) := hI hx
  have HT2 := hz
  clear hn hx hz hW B_0 Ia_0
  generalize hW : World.alloc W1 _ = W3
  have hn := below_new W1 (.cells #[.bool false, .slice none 0 0, .bool false, .slice none 0 0] 27)
  rw [hW] at hn
  have hx : Rb W3 W1.heap.size RVal.nil := by rw [← hW]; exact Rb.new (q := RVal.nil) (RVal.nil_in W1)
  have hlt : r < W1.heap.size := Xa_2.out.lt
  have B_3 := hI (bch B_1.out HRr.out hn)
  have Xa_4 := hI (Xa_2.out.on hn)
  rw [HT2] at hx hlt
  have Xe_5 : Hid (Rb W3 (r + 1) RVal.nil) := hI hx
  clear hn hx hW hlt B_1 Xa_2
  clear HT2
  have C := rvalid2 Xa_4.out.sl
  rw [HV.out] at C
  refine C.mono ?_
  clear C
  rintro e w6 ⟨rfl, hb⟩
  have B_6 := hI (bch B_3.out HRr.out hb)
  have Xa_7 := hI (Xa_4.out.on hb)
  have Xe_8 := hI (Xe_5.out.on hb)
  clear hb B_3 Xa_4 Xe_5
  obtain ⟨ke0, ke1, ke2, ke3⟩ := Xe_8.out.cs
  obtain ⟨fe0, fe1, fe2, fe3⟩ := Xe_8.out.fs
  simp only [RVal.nil] at ke0 ke1 ke2 ke3
  have le := Xe_8.out.lt
  go_wp2
  clear ke0 ke1 ke2 ke3 fe0 fe1 fe2 fe3 le
  clear Xa_7
  generalize hW : World.setCell (World.setCell (World.setCell (World.setCell w6 _ _) _ _) _ _) _ _ = W9
  have B_9 : Hid (Below r w W9) := by rw [← hW]; exact hI (below_put4 B_6.out (by omega) _ _ _ _)
  have Xe_10 : Hid (Rb W9 (r + 1) RVal.nil) := by rw [← hW]; exact hI (Rb.put (q' := RVal.nil) Xe_8.out (RVal.nil_in w6))
  clear hW B_6 Xe_8
  obtain ⟨j0, j1, j2, j3⟩ := Xe_10.out.cs
  try dsimp only at j0 j1 j2 j3
  simp only [RVal.nil] at j0 j1 j2 j3
  refine bodyPost_ret (v := .tuple #[.agg #[.bool false, .slice none 0 0, .bool false, .slice none 0 0], .bool false, .int .i64 1]) (by simp [results, Tryz.results36, go_sem, j0, j1, j2, j3]) rfl ?_
  exact RetRB.of Xe_10.out rfl rfl (by rw [HRr.out]; exact B_9.out)
set_option linter.unusedSimpArgs false in
set_option maxRecDepth 20000 in
set_option maxHeartbeats 2000000 in
theorem rsqq_neg (p : RVal) (w : World) (ha : p.In w) (hv : (rv p.o p.od).isSome = true) (hn : p.g = true) :
    Calls Tryz.prog 36 #[.agg #[.bool p.g, .slice p.A p.n p.c, .bool p.gd, .slice p.Ad p.nd p.cd]] w (RetRB 0 0 false 5 w) := by
  have HV := hI hv
  have HN := hI hn
  clear hv hn
  have Ia_0 := hI ha
  clear ha
  have B_0 : Hid (Below w.heap.size w w) := hI (Below.refl _ _)
  go_enter Tryz.func36, Tryz.ntmps36
  go_wp2_with fail
  generalize hW : World.alloc w _ = W1
  have hn := below_new w (.cells #[.bool p.g, .slice p.A p.n p.c, .bool p.gd, .slice p.Ad p.nd p.cd] 27)
  rw [hW] at hn
  have hz : W1.heap.size = w.heap.size + 1 := by rw [← hW]; simp
  have hx : Rb W1 w.heap.size p := by rw [← hW]; exact Rb.new (q := p) Ia_0.out
  have B_1 := hI (below_chain B_0.out B_0.out.size hn)
  generalize hr : w.heap.size = r at *
  have HRr := hI hr
  clear hr
  have Xa_2 : Hid (Rb W1 r p) := hI hx
  have HT2 := hz
  clear hn hx hz hW B_0 Ia_0
  generalize hW : World.alloc W1 _ = W3
  have hn := below_new W1 (.cells #[.bool false, .slice none 0 0, .bool false, .slice none 0 0] 27)
  rw [hW] at hn
  have hx : Rb W3 W1.heap.size RVal.nil := by rw [← hW]; exact Rb.new (q := RVal.nil) (RVal.nil_in W1)
  have hlt : r < W1.heap.size := Xa_2.out.lt
  have B_3 := hI (bch B_1.out HRr.out hn)
  have Xa_4 := hI (Xa_2.out.on hn)
  rw [HT2] at hx hlt
  have Xe_5 : Hid (Rb W3 (r + 1) RVal.nil) := hI hx
  clear hn hx hW hlt B_1 Xa_2
  clear HT2
  have C := rvalid2 Xa_4.out.sl
  rw [HV.out] at C
  refine C.mono ?_
  clear C
  rintro e w6 ⟨rfl, hb⟩
  have B_6 := hI (bch B_3.out HRr.out hb)
  have Xa_7 := hI (Xa_4.out.on hb)
  have Xe_8 := hI (Xe_5.out.on hb)
  clear hb B_3 Xa_4 Xe_5
  have hg : p.g = true := HN.out
  obtain ⟨ka0, ka1, ka2, ka3⟩ := Xa_7.out.cs
  have la := Xa_7.out.lt
  rw [hg] at ka0
  obtain ⟨ke0, ke1, ke2, ke3⟩ := Xe_8.out.cs
  obtain ⟨fe0, fe1, fe2, fe3⟩ := Xe_8.out.fs
  simp only [RVal.nil] at ke0 ke1 ke2 ke3
  have le := Xe_8.out.lt
  go_wp2
  clear ka0 ka1 ka2 ka3 la ke0 ke1 ke2 ke3 fe0 fe1 fe2 fe3 le
  clear Xa_7
  generalize hW : World.setCell (World.setCell (World.setCell (World.setCell w6 _ _) _ _) _ _) _ _ = W9
  have B_9 : Hid (Below r w W9) := by rw [← hW]; exact hI (below_put4 B_6.out (by omega) _ _ _ _)
  have Xe_10 : Hid (Rb W9 (r + 1) RVal.nil) := by rw [← hW]; exact hI (Rb.put (q' := RVal.nil) Xe_8.out (RVal.nil_in w6))
  clear hW B_6 Xe_8
  obtain ⟨j0, j1, j2, j3⟩ := Xe_10.out.cs
  try dsimp only at j0 j1 j2 j3
  simp only [RVal.nil] at j0 j1 j2 j3
  refine bodyPost_ret (v := .tuple #[.agg #[.bool false, .slice none 0 0, .bool false, .slice none 0 0], .bool false, .int .i64 5]) (by simp [results, Tryz.results36, go_sem, j0, j1, j2, j3]) rfl ?_
  exact RetRB.of Xe_10.out rfl rfl (by rw [HRr.out]; exact B_9.out)
set_option linter.unusedSimpArgs false in
set_option maxRecDepth 20000 in
set_option maxHeartbeats 2000000 in
theorem rsqq_no1 (p : RVal) (w : World) (ha : p.In w) (x : Rat) (ha2 : rv p.o p.od = some x) (s t : Nat) (bb : Bool) (h0 : 0 ≤ x.num ∧ p.g = false) (h1 : s * s ≤ x.num.natAbs ∧ x.num.natAbs < (s + 1) * (s + 1) ∧ decide (s * s = x.num.natAbs) = false) (h2 : t * t ≤ (x.den : Int).natAbs ∧ (x.den : Int).natAbs < (t + 1) * (t + 1) ∧ decide (t * t = (x.den : Int).natAbs) = bb) :
    Calls Tryz.prog 36 #[.agg #[.bool p.g, .slice p.A p.n p.c, .bool p.gd, .slice p.Ad p.nd p.cd]] w (RetRB 0 0 false 0 w) := by
  have Va := hI ha2
  have H0 := hI h0
  have H1 := hI h1
  have H2 := hI h2
  clear ha2 h0 h1 h2
  have Ia_0 := hI ha
  clear ha
  have B_0 : Hid (Below w.heap.size w w) := hI (Below.refl _ _)
  go_enter Tryz.func36, Tryz.ntmps36
  go_wp2_with fail
  generalize hW : World.alloc w _ = W1
  have hn := below_new w (.cells #[.bool p.g, .slice p.A p.n p.c, .bool p.gd, .slice p.Ad p.nd p.cd] 27)
  rw [hW] at hn
  have hz : W1.heap.size = w.heap.size + 1 := by rw [← hW]; simp
  have hx : Rb W1 w.heap.size p := by rw [← hW]; exact Rb.new (q := p) Ia_0.out
  have B_1 := hI (below_chain B_0.out B_0.out.size hn)
  generalize hr : w.heap.size = r at *
  have HRr := hI hr
  clear hr
  have Xa_2 : Hid (Rb W1 r p) := hI hx
  have HT2 := hz
  clear hn hx hz hW B_0 Ia_0
  generalize hW : World.alloc W1 _ = W3
  have hn := below_new W1 (.cells #[.bool false, .slice none 0 0, .bool false, .slice none 0 0] 27)
  rw [hW] at hn
  have hx : Rb W3 W1.heap.size RVal.nil := by rw [← hW]; exact Rb.new (q := RVal.nil) (RVal.nil_in W1)
  have hlt : r < W1.heap.size := Xa_2.out.lt
  have B_3 := hI (bch B_1.out HRr.out hn)
  have Xa_4 := hI (Xa_2.out.on hn)
  rw [HT2] at hx hlt
  have Xe_5 : Hid (Rb W3 (r + 1) RVal.nil) := hI hx
  clear hn hx hW hlt B_1 Xa_2
  clear HT2
  have C := rvalid2 Xa_4.out.sl
  rw [isSome_of Va.out] at C
  refine C.mono ?_
  clear C
  rintro e w6 ⟨rfl, hb⟩
  have B_6 := hI (bch B_3.out HRr.out hb)
  have Xa_7 := hI (Xa_4.out.on hb)
  have Xe_8 := hI (Xe_5.out.on hb)
  clear hb B_3 Xa_4 Xe_5
  have hg : p.g = false := H0.out.2
  obtain ⟨ka0, ka1, ka2, ka3⟩ := Xa_7.out.cs
  have la := Xa_7.out.lt
  rw [hg] at ka0
  go_wp2_with fail
  clear hg
  rw [show (false : Bool) = p.g from H0.out.2.symm]
  refine (rsqrt_z (g := p.g) Xa_7.out.sl.1 (rv_some Va.out).1 H0.out.1 _ _ H1.out.1 H1.out.2.1 H1.out.2.2).mono ?_
  clear ka0 ka1 ka2 ka3 la
  rintro e w9 ⟨gn, An, nn, cn, xsn, rfl, hs, ho, hb⟩
  have B_9 := hI (bch B_6.out HRr.out hb)
  have Xa_10 := hI (Xa_7.out.on hb)
  have Xe_11 := hI (Xe_8.out.on hb)
  have Jn_12 : Hid (Sl w9 w9.heap.size An nn cn xsn) := hI hs
  clear hb B_6 Xa_7 Xe_8 hs
  have Vn := hI ho
  clear ho
  obtain ⟨ka0, ka1, ka2, ka3⟩ := (Xa_10.out.on (below_new w9 (.cells #[.bool gn, .slice An nn cn] 24))).cs
  have la := Xa_10.out.lt
  go_wp2_with fail
  generalize hW : World.alloc w9 _ = W13
  have hn := below_new w9 (.cells #[.bool gn, .slice An nn cn] 24)
  rw [hW] at hn
  have hx : Ba W13 w9.heap.size gn An nn cn xsn := by rw [← hW]; exact ⟨Bx.new w9 _ _ _ _, Jn_12.out.on (below_new _ _)⟩
  have hlt : (r + 1) < w9.heap.size := Xe_11.out.lt
  have B_13 := hI (bch B_9.out HRr.out hn)
  have Xa_14 := hI (Xa_10.out.on hn)
  have Xe_15 := hI (Xe_11.out.on hn)
  generalize hbb : w9.heap.size = b1 at *
  clear hbb
  have Zn_16 : Hid (Ba W13 b1 gn An nn cn xsn) := hI hx
  have O16 := hI hlt
  clear hn hx hW hlt B_9 Xa_10 Xe_11 Jn_12
  refine (rsqrt_z (g := p.gd) Xa_14.out.sl.2 (rv_some Va.out).2 (Int.natCast_nonneg _) _ _ H2.out.1 H2.out.2.1 H2.out.2.2).mono ?_
  clear ka0 ka1 ka2 ka3 la
  rintro e w17 ⟨gd, Ad, nd, cd, xsd, rfl, hs, ho, hb⟩
  have B_17 := hI (bch B_13.out HRr.out hb)
  have Xa_18 := hI (Xa_14.out.on hb)
  have Xe_19 := hI (Xe_15.out.on hb)
  have Zn_20 := hI (Zn_16.out.on hb)
  have Jd_21 : Hid (Sl w17 w17.heap.size Ad nd cd xsd) := hI hs
  clear hb B_13 Xa_14 Xe_15 Zn_16 hs
  have Vd := hI ho
  clear ho
  clear Xa_18 Zn_20 Jd_21
  obtain ⟨ke0, ke1, ke2, ke3⟩ := Xe_19.out.cs
  obtain ⟨fe0, fe1, fe2, fe3⟩ := Xe_19.out.fs
  simp only [RVal.nil] at ke0 ke1 ke2 ke3
  have le := Xe_19.out.lt
  go_wp2
  clear ke0 ke1 ke2 ke3 fe0 fe1 fe2 fe3 le
  generalize hW : World.setCell (World.setCell (World.setCell (World.setCell w17 _ _) _ _) _ _) _ _ = W22
  have B_22 : Hid (Below r w W22) := by rw [← hW]; exact hI (below_put4 B_17.out (by omega) _ _ _ _)
  have Xe_23 : Hid (Rb W22 (r + 1) RVal.nil) := by rw [← hW]; exact hI (Rb.put (q' := RVal.nil) Xe_19.out (RVal.nil_in w17))
  clear hW B_17 Xe_19
  generalize hW : World.alloc W22 _ = W24
  have hn := below_new W22 (.cells #[.bool gd, .slice Ad nd cd] 24)
  rw [hW] at hn
  have B_24 := hI (bch B_22.out HRr.out hn)
  have Xe_25 := hI (Xe_23.out.on hn)
  clear hn hW B_22 Xe_23
  obtain ⟨j0, j1, j2, j3⟩ := Xe_25.out.cs
  try dsimp only at j0 j1 j2 j3
  simp only [RVal.nil] at j0 j1 j2 j3
  refine bodyPost_ret (v := .tuple #[.agg #[.bool false, .slice none 0 0, .bool false, .slice none 0 0], .bool false, .int .i64 0]) (by simp [results, Tryz.results36, go_sem, j0, j1, j2, j3]) rfl ?_
  exact RetRB.of Xe_25.out rfl rfl (by rw [HRr.out]; exact B_24.out)
set_option linter.unusedSimpArgs false in
set_option maxRecDepth 20000 in
set_option maxHeartbeats 2000000 in
theorem rsqq_no2 (p : RVal) (w : World) (ha : p.In w) (x : Rat) (ha2 : rv p.o p.od = some x) (s t : Nat) (h0 : 0 ≤ x.num ∧ p.g = false) (h1 : s * s ≤ x.num.natAbs ∧ x.num.natAbs < (s + 1) * (s + 1) ∧ decide (s * s = x.num.natAbs) = true) (h2 : t * t ≤ (x.den : Int).natAbs ∧ (x.den : Int).natAbs < (t + 1) * (t + 1) ∧ decide (t * t = (x.den : Int).natAbs) = false) :
    Calls Tryz.prog 36 #[.agg #[.bool p.g, .slice p.A p.n p.c, .bool p.gd, .slice p.Ad p.nd p.cd]] w (RetRB 0 0 false 0 w) := by
  have Va := hI ha2
  have H0 := hI h0
  have H1 := hI h1
  have H2 := hI h2
  clear ha2 h0 h1 h2
  have Ia_0 := hI ha
  clear ha
  have B_0 : Hid (Below w.heap.size w w) := hI (Below.refl _ _)
  go_enter Tryz.func36, Tryz.ntmps36
  go_wp2_with fail
  generalize hW : World.alloc w _ = W1
  have hn := below_new w (.cells #[.bool p.g, .slice p.A p.n p.c, .bool p.gd, .slice p.Ad p.nd p.cd] 27)
  rw [hW] at hn
  have hz : W1.heap.size = w.heap.size + 1 := by rw [← hW]; simp
  have hx : Rb W1 w.heap.size p := by rw [← hW]; exact Rb.new (q := p) Ia_0.out
  have B_1 := hI (below_chain B_0.out B_0.out.size hn)
  generalize hr : w.heap.size = r at *
  have HRr := hI hr
  clear hr
  have Xa_2 : Hid (Rb W1 r p) := hI hx
  have HT2 := hz
  clear hn hx hz hW B_0 Ia_0
  generalize hW : World.alloc W1 _ = W3
  have hn := below_new W1 (.cells #[.bool false, .slice none 0 0, .bool false, .slice none 0 0] 27)
  rw [hW] at hn
  have hx : Rb W3 W1.heap.size RVal.nil := by rw [← hW]; exact Rb.new (q := RVal.nil) (RVal.nil_in W1)
  have hlt : r < W1.heap.size := Xa_2.out.lt
  have B_3 := hI (bch B_1.out HRr.out hn)
  have Xa_4 := hI (Xa_2.out.on hn)
  rw [HT2] at hx hlt
  have Xe_5 : Hid (Rb W3 (r + 1) RVal.nil) := hI hx
  clear hn hx hW hlt B_1 Xa_2
  clear HT2
  have C := rvalid2 Xa_4.out.sl
  rw [isSome_of Va.out] at C
  refine C.mono ?_
  clear C
  rintro e w6 ⟨rfl, hb⟩
  have B_6 := hI (bch B_3.out HRr.out hb)
  have Xa_7 := hI (Xa_4.out.on hb)
  have Xe_8 := hI (Xe_5.out.on hb)
  clear hb B_3 Xa_4 Xe_5
  have hg : p.g = false := H0.out.2
  obtain ⟨ka0, ka1, ka2, ka3⟩ := Xa_7.out.cs
  have la := Xa_7.out.lt
  rw [hg] at ka0
  go_wp2_with fail
  clear hg
  rw [show (false : Bool) = p.g from H0.out.2.symm]
  refine (rsqrt_z (g := p.g) Xa_7.out.sl.1 (rv_some Va.out).1 H0.out.1 _ _ H1.out.1 H1.out.2.1 H1.out.2.2).mono ?_
  clear ka0 ka1 ka2 ka3 la
  rintro e w9 ⟨gn, An, nn, cn, xsn, rfl, hs, ho, hb⟩
  have B_9 := hI (bch B_6.out HRr.out hb)
  have Xa_10 := hI (Xa_7.out.on hb)
  have Xe_11 := hI (Xe_8.out.on hb)
  have Jn_12 : Hid (Sl w9 w9.heap.size An nn cn xsn) := hI hs
  clear hb B_6 Xa_7 Xe_8 hs
  have Vn := hI ho
  clear ho
  obtain ⟨ka0, ka1, ka2, ka3⟩ := (Xa_10.out.on (below_new w9 (.cells #[.bool gn, .slice An nn cn] 24))).cs
  have la := Xa_10.out.lt
  go_wp2_with fail
  generalize hW : World.alloc w9 _ = W13
  have hn := below_new w9 (.cells #[.bool gn, .slice An nn cn] 24)
  rw [hW] at hn
  have hx : Ba W13 w9.heap.size gn An nn cn xsn := by rw [← hW]; exact ⟨Bx.new w9 _ _ _ _, Jn_12.out.on (below_new _ _)⟩
  have hlt : (r + 1) < w9.heap.size := Xe_11.out.lt
  have B_13 := hI (bch B_9.out HRr.out hn)
  have Xa_14 := hI (Xa_10.out.on hn)
  have Xe_15 := hI (Xe_11.out.on hn)
  generalize hbb : w9.heap.size = b1 at *
  clear hbb
  have Zn_16 : Hid (Ba W13 b1 gn An nn cn xsn) := hI hx
  have O16 := hI hlt
  clear hn hx hW hlt B_9 Xa_10 Xe_11 Jn_12
  refine (rsqrt_z (g := p.gd) Xa_14.out.sl.2 (rv_some Va.out).2 (Int.natCast_nonneg _) _ _ H2.out.1 H2.out.2.1 H2.out.2.2).mono ?_
  clear ka0 ka1 ka2 ka3 la
  rintro e w17 ⟨gd, Ad, nd, cd, xsd, rfl, hs, ho, hb⟩
  have B_17 := hI (bch B_13.out HRr.out hb)
  have Xa_18 := hI (Xa_14.out.on hb)
  have Xe_19 := hI (Xe_15.out.on hb)
  have Zn_20 := hI (Zn_16.out.on hb)
  have Jd_21 : Hid (Sl w17 w17.heap.size Ad nd cd xsd) := hI hs
  clear hb B_13 Xa_14 Xe_15 Zn_16 hs
  have Vd := hI ho
  clear ho
  clear Xa_18 Zn_20 Jd_21
  obtain ⟨ke0, ke1, ke2, ke3⟩ := Xe_19.out.cs
  obtain ⟨fe0, fe1, fe2, fe3⟩ := Xe_19.out.fs
  simp only [RVal.nil] at ke0 ke1 ke2 ke3
  have le := Xe_19.out.lt
  go_wp2
  clear ke0 ke1 ke2 ke3 fe0 fe1 fe2 fe3 le
  generalize hW : World.setCell (World.setCell (World.setCell (World.setCell w17 _ _) _ _) _ _) _ _ = W22
  have B_22 : Hid (Below r w W22) := by rw [← hW]; exact hI (below_put4 B_17.out (by omega) _ _ _ _)
  have Xe_23 : Hid (Rb W22 (r + 1) RVal.nil) := by rw [← hW]; exact hI (Rb.put (q' := RVal.nil) Xe_19.out (RVal.nil_in w17))
  clear hW B_17 Xe_19
  generalize hW : World.alloc W22 _ = W24
  have hn := below_new W22 (.cells #[.bool gd, .slice Ad nd cd] 24)
  rw [hW] at hn
  have B_24 := hI (bch B_22.out HRr.out hn)
  have Xe_25 := hI (Xe_23.out.on hn)
  clear hn hW B_22 Xe_23
  obtain ⟨j0, j1, j2, j3⟩ := Xe_25.out.cs
  try dsimp only at j0 j1 j2 j3
  simp only [RVal.nil] at j0 j1 j2 j3
  refine bodyPost_ret (v := .tuple #[.agg #[.bool false, .slice none 0 0, .bool false, .slice none 0 0], .bool false, .int .i64 0]) (by simp [results, Tryz.results36, go_sem, j0, j1, j2, j3]) rfl ?_
  exact RetRB.of Xe_25.out rfl rfl (by rw [HRr.out]; exact B_24.out)
set_option linter.unusedSimpArgs false in
set_option maxRecDepth 20000 in
set_option maxHeartbeats 2000000 in
theorem rsqq_yes (p : RVal) (w : World) (ha : p.In w) (x : Rat) (ha2 : rv p.o p.od = some x) (s t : Nat) (h0 : 0 ≤ x.num ∧ p.g = false) (h1 : s * s ≤ x.num.natAbs ∧ x.num.natAbs < (s + 1) * (s + 1) ∧ decide (s * s = x.num.natAbs) = true) (h2 : t * t ≤ (x.den : Int).natAbs ∧ (x.den : Int).natAbs < (t + 1) * (t + 1) ∧ decide (t * t = (x.den : Int).natAbs) = true) :
    Calls Tryz.prog 36 #[.agg #[.bool p.g, .slice p.A p.n p.c, .bool p.gd, .slice p.Ad p.nd p.cd]] w (RetRB s t true 0 w) := by
  have Va := hI ha2
  have H0 := hI h0
  have H1 := hI h1
  have H2 := hI h2
  clear ha2 h0 h1 h2
  have Ia_0 := hI ha
  clear ha
  have B_0 : Hid (Below w.heap.size w w) := hI (Below.refl _ _)
  go_enter Tryz.func36, Tryz.ntmps36
  go_wp2_with fail
  generalize hW : World.alloc w _ = W1
  have hn := below_new w (.cells #[.bool p.g, .slice p.A p.n p.c, .bool p.gd, .slice p.Ad p.nd p.cd] 27)
  rw [hW] at hn
  have hz : W1.heap.size = w.heap.size + 1 := by rw [← hW]; simp
  have hx : Rb W1 w.heap.size p := by rw [← hW]; exact Rb.new (q := p) Ia_0.out
  have B_1 := hI (below_chain B_0.out B_0.out.size hn)
  generalize hr : w.heap.size = r at *
  have HRr := hI hr
  clear hr
  have Xa_2 : Hid (Rb W1 r p) := hI hx
  have HT2 := hz
  clear hn hx hz hW B_0 Ia_0
  generalize hW : World.alloc W1 _ = W3
  have hn := below_new W1 (.cells #[.bool false, .slice none 0 0, .bool false, .slice none 0 0] 27)
  rw [hW] at hn
  have hx : Rb W3 W1.heap.size RVal.nil := by rw [← hW]; exact Rb.new (q := RVal.nil) (RVal.nil_in W1)
  have hlt : r < W1.heap.size := Xa_2.out.lt
  have B_3 := hI (bch B_1.out HRr.out hn)
  have Xa_4 := hI (Xa_2.out.on hn)
  rw [HT2] at hx hlt
  have Xe_5 : Hid (Rb W3 (r + 1) RVal.nil) := hI hx
  clear hn hx hW hlt B_1 Xa_2
  clear HT2
  have C := rvalid2 Xa_4.out.sl
  rw [isSome_of Va.out] at C
  refine C.mono ?_
  clear C
  rintro e w6 ⟨rfl, hb⟩
  have B_6 := hI (bch B_3.out HRr.out hb)
  have Xa_7 := hI (Xa_4.out.on hb)
  have Xe_8 := hI (Xe_5.out.on hb)
  clear hb B_3 Xa_4 Xe_5
  have hg : p.g = false := H0.out.2
  obtain ⟨ka0, ka1, ka2, ka3⟩ := Xa_7.out.cs
  have la := Xa_7.out.lt
  rw [hg] at ka0
  go_wp2_with fail
  clear hg
  rw [show (false : Bool) = p.g from H0.out.2.symm]
  refine (rsqrt_z (g := p.g) Xa_7.out.sl.1 (rv_some Va.out).1 H0.out.1 _ _ H1.out.1 H1.out.2.1 H1.out.2.2).mono ?_
  clear ka0 ka1 ka2 ka3 la
  rintro e w9 ⟨gn, An, nn, cn, xsn, rfl, hs, ho, hb⟩
  have B_9 := hI (bch B_6.out HRr.out hb)
  have Xa_10 := hI (Xa_7.out.on hb)
  have Xe_11 := hI (Xe_8.out.on hb)
  have Jn_12 : Hid (Sl w9 w9.heap.size An nn cn xsn) := hI hs
  clear hb B_6 Xa_7 Xe_8 hs
  have Vn := hI ho
  clear ho
  obtain ⟨ka0, ka1, ka2, ka3⟩ := (Xa_10.out.on (below_new w9 (.cells #[.bool gn, .slice An nn cn] 24))).cs
  have la := Xa_10.out.lt
  go_wp2_with fail
  generalize hW : World.alloc w9 _ = W13
  have hn := below_new w9 (.cells #[.bool gn, .slice An nn cn] 24)
  rw [hW] at hn
  have hx : Ba W13 w9.heap.size gn An nn cn xsn := by rw [← hW]; exact ⟨Bx.new w9 _ _ _ _, Jn_12.out.on (below_new _ _)⟩
  have hlt : (r + 1) < w9.heap.size := Xe_11.out.lt
  have B_13 := hI (bch B_9.out HRr.out hn)
  have Xa_14 := hI (Xa_10.out.on hn)
  have Xe_15 := hI (Xe_11.out.on hn)
  generalize hbb : w9.heap.size = b1 at *
  clear hbb
  have Zn_16 : Hid (Ba W13 b1 gn An nn cn xsn) := hI hx
  have O16 := hI hlt
  clear hn hx hW hlt B_9 Xa_10 Xe_11 Jn_12
  refine (rsqrt_z (g := p.gd) Xa_14.out.sl.2 (rv_some Va.out).2 (Int.natCast_nonneg _) _ _ H2.out.1 H2.out.2.1 H2.out.2.2).mono ?_
  clear ka0 ka1 ka2 ka3 la
  rintro e w17 ⟨gd, Ad, nd, cd, xsd, rfl, hs, ho, hb⟩
  have B_17 := hI (bch B_13.out HRr.out hb)
  have Xa_18 := hI (Xa_14.out.on hb)
  have Xe_19 := hI (Xe_15.out.on hb)
  have Zn_20 := hI (Zn_16.out.on hb)
  have Jd_21 : Hid (Sl w17 w17.heap.size Ad nd cd xsd) := hI hs
  clear hb B_13 Xa_14 Xe_15 Zn_16 hs
  have Vd := hI ho
  clear ho
  clear Xa_18
  obtain ⟨kn0, kn1⟩ := (Zn_20.out.on (below_new w17 (.cells #[.bool gd, .slice Ad nd cd] 24))).cs
  have ln := Zn_20.out.bx.lt
  obtain ⟨ke0, ke1, ke2, ke3⟩ := Xe_19.out.cs
  obtain ⟨fe0, fe1, fe2, fe3⟩ := Xe_19.out.fs
  simp only [RVal.nil] at ke0 ke1 ke2 ke3
  have le := Xe_19.out.lt
  have nen : (r + 1) ≠ b1 := by have := O16.out; omega
  have nne := nen.symm
  go_wp2
  clear kn0 kn1 ln ke0 ke1 ke2 ke3 fe0 fe1 fe2 fe3 le nen nne
  have Ik_22 : Hid ((⟨gn, An, nn, cn, xsn, gd, Ad, nd, cd, xsd⟩ : RVal).In w17) := hI ⟨Zn_20.out.sl, Jd_21.out⟩
  clear Zn_20 Jd_21
  generalize hW : World.setCell (World.setCell (World.setCell (World.setCell w17 _ _) _ _) _ _) _ _ = W23
  have B_23 : Hid (Below r w W23) := by rw [← hW]; exact hI (below_put4 B_17.out (by omega) _ _ _ _)
  have Xe_24 : Hid (Rb W23 (r + 1) (⟨gn, An, nn, cn, xsn, gd, Ad, nd, cd, xsd⟩ : RVal)) := by rw [← hW]; exact hI (Rb.put (q' := (⟨gn, An, nn, cn, xsn, gd, Ad, nd, cd, xsd⟩ : RVal)) Xe_19.out Ik_22.out)
  clear hW B_17 Xe_19 Ik_22
  generalize hW : World.alloc W23 _ = W25
  have hn := below_new W23 (.cells #[.bool gd, .slice Ad nd cd] 24)
  rw [hW] at hn
  have B_25 := hI (bch B_23.out HRr.out hn)
  have Xe_26 := hI (Xe_24.out.on hn)
  clear hn hW B_23 Xe_24
  obtain ⟨j0, j1, j2, j3⟩ := Xe_26.out.cs
  try dsimp only at j0 j1 j2 j3
  refine bodyPost_ret (v := .tuple #[.agg #[.bool (gn), .slice An nn cn, .bool (gd), .slice Ad nd cd], .bool true, .int .i64 0]) (by simp [results, Tryz.results36, go_sem, j0, j1, j2, j3]) rfl ?_
  exact RetRB.of Xe_26.out Vn.out Vd.out (by rw [HRr.out]; exact B_25.out)
end Go.Proofs.YtlibjampolcbhaaGreat
