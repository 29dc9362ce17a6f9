/-
  Stage 2: the reference's isOne, isZero, Valid and Short.
-/
import Derived.Test.YtlibjampolcbhaaGreatRatV
import Derived.Test.YtlibjampolcbhaaGreatBaseF
import Derived.Test.YtlibjampolcbhaaGreatRatM
namespace Go.Proofs.YtlibjampolcbhaaGreat
open Go.RowKit
theorem lim_one {xs : List Nat} {n : Nat} {z : Int} (hx : Ok xs) (nx : Nz xs) (hl : xs.length = n) (hv : val xs = z.natAbs) (hz : 0 ≤ z) : (decide (n = 1) && decide (lim xs 0 = 1)) = decide (z = 1) := by
  subst hl
  by_cases h : z = 1
  · subst h
    have e : xs = [1] := uniq hx (by intro x hx; simp at hx; omega) nx (by simp [Nz]) (by rw [hv]; rfl)
    subst e
    rfl
  · rw [decide_eq_false h]
    rcases xs with _ | ⟨x, _ | ⟨y, ys⟩⟩
    · rfl
    · have : x ≠ 1 := by
        rintro rfl
        simp [val] at hv
        omega
      simp [lim, this]
    · simp
set_option maxHeartbeats 1000000 in
theorem risone_any (neg : Bool) (A : Option Addr) (n c : Nat) (xs : List Nat) (w : World) (h : Sl w w.heap.size A n c xs) :
    Calls Tryz.prog 60 #[.agg #[.bool neg, .slice A n c]] w fun e w' => e = .returned (.bool (!neg && (decide (n = 1) && decide (lim xs 0 = 1)))) ∧ Below w.heap.size w w' := by
  have HS := Lib.hid h
  have HB := Lib.hid (below_new w (.cells #[.bool neg, .slice A n c] 24))
  rcases neg with _ | _
  · by_cases hn : n = 1
    · subst hn
      have hs := h.on HB.out
      obtain ⟨ad, rfl, _, hc⟩ := hs.cell (k := 0) (by omega)
      have hx : (((lim xs 0 : Nat) : Int) == 1) = decide (lim xs 0 = 1) := by
        by_cases hl : lim xs 0 = 1
        · rw [hl]; rfl
        · rw [decide_eq_false hl, beq_eq_false_iff_ne]; omega
      have e0 : ad.add 0 = ad := by cases ad; simp [Addr.add]
      rw [e0] at hc
      have hcap := hs.cap
      have HX := Lib.hid hx
      clear h hs hx
      go_enter Tryz.func60, Tryz.ntmps60
      go_wp2
      go_ret
      exact ⟨by simp; exact HX.out, HB.out⟩
    · have e1 : ((n : Int) == 1) = false := by rw [beq_eq_false_iff_ne]; omega
      have e2 : (n == 1) = false := by rw [beq_eq_false_iff_ne]; exact hn
      have hd := Lib.hid (decide_eq_false hn)
      clear h
      go_enter Tryz.func60, Tryz.ntmps60
      go_wp2
      go_ret
      exact ⟨by simp [hd.out], HB.out⟩
  · clear h
    go_enter Tryz.func60, Tryz.ntmps60
    go_wp2
    go_ret
    exact ⟨rfl, HB.out⟩
theorem riszero_any (neg : Bool) (A : Option Addr) (n c : Nat) (w : World) :
    Calls Tryz.prog 55 #[.agg #[.bool neg, .slice A n c]] w fun e w' => e = .returned (.bool (decide (n = 0))) ∧ Below w.heap.size w w' := by
  have HB := Lib.hid (below_new w (.cells #[.bool neg, .slice A n c] 24))
  by_cases hn : n = 0
  · subst hn
    go_enter Tryz.func55, Tryz.ntmps55
    go_wp2
    go_ret
    exact ⟨rfl, HB.out⟩
  · have e1 : ((n : Int) == 0) = false := by rw [beq_eq_false_iff_ne]; omega
    have e2 : (n == 0) = false := by rw [beq_eq_false_iff_ne]; exact hn
    have hd := Lib.hid (decide_eq_false hn)
    go_enter Tryz.func55, Tryz.ntmps55
    go_wp2
    go_ret
    exact ⟨by simp [hd.out], HB.out⟩
set_option maxHeartbeats 1000000 in
theorem rshort2 (q : RVal) (L : Nat) (w : World) :
    Calls Tryz.prog 90 #[.agg #[.bool q.g, .slice q.A q.n q.c, .bool q.gd, .slice q.Ad q.nd q.cd], .int .i64 (L : Int)] w fun e w' => e = .returned (.bool (decide (q.n ≤ L) && decide (q.nd ≤ L))) ∧ Below w.heap.size w w' := by
  have HB := Lib.hid (below_new w (.cells #[.bool q.g, .slice q.A q.n q.c, .bool q.gd, .slice q.Ad q.nd q.cd] 27))
  have B := Blk.new w 27 #[.bool q.g, .slice q.A q.n q.c, .bool q.gd, .slice q.Ad q.nd q.cd]
  have k1 : (w.alloc (.cells #[.bool q.g, .slice q.A q.n q.c, .bool q.gd, .slice q.Ad q.nd q.cd] 27)).cell? ⟨w.heap.size, 1, none⟩ = some (.slice q.A q.n q.c) := by rw [Blk.cell B 1]; rfl
  have k3 : (w.alloc (.cells #[.bool q.g, .slice q.A q.n q.c, .bool q.gd, .slice q.Ad q.nd q.cd] 27)).cell? ⟨w.heap.size, 3, none⟩ = some (.slice q.Ad q.nd q.cd) := by rw [Blk.cell B 3]; rfl
  clear B
  obtain ⟨l, hl⟩ : ∃ l : Int, l = (L : Int) := ⟨_, rfl⟩
  rw [← hl]
  by_cases h1 : q.n ≤ L
  · have e1 : decide ((q.n : Int) ≤ l) = true := by rw [decide_eq_true_iff]; omega
    by_cases h2 : q.nd ≤ L
    · have e2 : decide ((q.nd : Int) ≤ l) = true := by rw [decide_eq_true_iff]; omega
      have hd := Lib.hid (And.intro (decide_eq_true h1) (decide_eq_true h2))
      clear h1 h2 hl
      go_enter Tryz.func90, Tryz.ntmps90
      go_wp2
      go_ret
      exact ⟨by rw [hd.out.1, hd.out.2]; rfl, HB.out⟩
    · have e2 : decide ((q.nd : Int) ≤ l) = false := by rw [decide_eq_false_iff_not]; omega
      have hd := Lib.hid (And.intro (decide_eq_true h1) (decide_eq_false h2))
      clear h1 h2 hl
      go_enter Tryz.func90, Tryz.ntmps90
      go_wp2
      go_ret
      exact ⟨by rw [hd.out.1, hd.out.2]; rfl, HB.out⟩
  · have e1 : decide ((q.n : Int) ≤ l) = false := by rw [decide_eq_false_iff_not]; omega
    have hd := Lib.hid (decide_eq_false h1)
    clear h1 hl
    go_enter Tryz.func90, Tryz.ntmps90
    go_wp2
    go_ret
    exact ⟨by rw [hd.out]; rfl, HB.out⟩
set_option maxHeartbeats 1000000 in
theorem rv2_a (q : RVal) (w : World) (h : q.In w) (v1 : vld q.g q.xs = false) (b : Bool) (v2 : vld q.gd q.ys = b) :
    Calls Tryz.prog 21 #[.agg #[.bool q.g, .slice q.A q.n q.c, .bool q.gd, .slice q.Ad q.nd q.cd]] w fun e w' => e = .returned (.bool (false)) ∧ Below w.heap.size w w' := by
  have HS := Lib.hid h
  have HB0 := Lib.hid (below_new w (.cells #[.bool q.g, .slice q.A q.n q.c, .bool q.gd, .slice q.Ad q.nd q.cd] 27))
  have H00 := Lib.hid (Rb.new h)
  have HV1 := Lib.hid v1
  have HV2 := Lib.hid v2
  clear v1 v2
  clear h
  go_enter Tryz.func21, Tryz.ntmps21
  go_wp2_with fail
  generalize hW : World.alloc w _ = V
  have hb0 := HB0.out
  have h0 := H00.out
  rw [hW] at hb0 h0
  have HB := Lib.hid hb0
  have H0 := Lib.hid h0
  clear hb0 h0 HB0 H00 hW
  generalize hr : w.heap.size = r at *
  have HRr := Lib.hid hr
  clear hr
  have a0 := H0.out.c0
  have a1 := H0.out.c1
  go_wp2_with fail
  have C := rvalid_any q.g q.A q.n q.c _ q.xs V H0.out.sl.1 (Nat.le_refl _)
  rw [HV1.out] at C
  refine C.mono ?_
  clear C a0 a1
  rintro e w1 ⟨rfl, hb1⟩
  have B1 := Lib.hid (below_chain HB.out (by have := HB.out.size; have := HRr.out; omega) hb1)
  have H1 := Lib.hid (H0.out.on hb1)
  clear hb1 H0 HB
  have a2 := H1.out.c2
  have a3 := H1.out.c3
  go_wp2_with fail
  have C := rvalid_any q.gd q.Ad q.nd q.cd _ q.ys w1 H1.out.sl.2 (Nat.le_refl _)
  rw [HV2.out] at C
  refine C.mono ?_
  clear C a2 a3
  rintro e w2 ⟨rfl, hb2⟩
  have B2 := Lib.hid (below_chain B1.out (by have := B1.out.size; have := HRr.out; omega) hb2)
  have H2 := Lib.hid (H1.out.on hb2)
  clear hb2 H1 B1
  go_wp2
  go_ret
  exact ⟨rfl, by rw [HRr.out]; exact B2.out⟩
set_option maxHeartbeats 1000000 in
theorem rv2_b (q : RVal) (w : World) (h : q.In w) (v1 : vld q.g q.xs = true) (v2 : vld q.gd q.ys = false) :
    Calls Tryz.prog 21 #[.agg #[.bool q.g, .slice q.A q.n q.c, .bool q.gd, .slice q.Ad q.nd q.cd]] w fun e w' => e = .returned (.bool (false)) ∧ Below w.heap.size w w' := by
  have HS := Lib.hid h
  have HB0 := Lib.hid (below_new w (.cells #[.bool q.g, .slice q.A q.n q.c, .bool q.gd, .slice q.Ad q.nd q.cd] 27))
  have H00 := Lib.hid (Rb.new h)
  have HV1 := Lib.hid v1
  have HV2 := Lib.hid v2
  clear v1 v2
  clear h
  go_enter Tryz.func21, Tryz.ntmps21
  go_wp2_with fail
  generalize hW : World.alloc w _ = V
  have hb0 := HB0.out
  have h0 := H00.out
  rw [hW] at hb0 h0
  have HB := Lib.hid hb0
  have H0 := Lib.hid h0
  clear hb0 h0 HB0 H00 hW
  generalize hr : w.heap.size = r at *
  have HRr := Lib.hid hr
  clear hr
  have a0 := H0.out.c0
  have a1 := H0.out.c1
  go_wp2_with fail
  have C := rvalid_any q.g q.A q.n q.c _ q.xs V H0.out.sl.1 (Nat.le_refl _)
  rw [HV1.out] at C
  refine C.mono ?_
  clear C a0 a1
  rintro e w1 ⟨rfl, hb1⟩
  have B1 := Lib.hid (below_chain HB.out (by have := HB.out.size; have := HRr.out; omega) hb1)
  have H1 := Lib.hid (H0.out.on hb1)
  clear hb1 H0 HB
  have a2 := H1.out.c2
  have a3 := H1.out.c3
  go_wp2_with fail
  have C := rvalid_any q.gd q.Ad q.nd q.cd _ q.ys w1 H1.out.sl.2 (Nat.le_refl _)
  rw [HV2.out] at C
  refine C.mono ?_
  clear C a2 a3
  rintro e w2 ⟨rfl, hb2⟩
  have B2 := Lib.hid (below_chain B1.out (by have := B1.out.size; have := HRr.out; omega) hb2)
  have H2 := Lib.hid (H1.out.on hb2)
  clear hb2 H1 B1
  go_wp2
  go_ret
  exact ⟨rfl, by rw [HRr.out]; exact B2.out⟩
set_option maxHeartbeats 1000000 in
theorem rv2_c (q : RVal) (w : World) (h : q.In w) (v1 : vld q.g q.xs = true) (v2 : vld q.gd q.ys = true) (v3 : q.gd = true) :
    Calls Tryz.prog 21 #[.agg #[.bool q.g, .slice q.A q.n q.c, .bool q.gd, .slice q.Ad q.nd q.cd]] w fun e w' => e = .returned (.bool (false)) ∧ Below w.heap.size w w' := by
  have HS := Lib.hid h
  have HB0 := Lib.hid (below_new w (.cells #[.bool q.g, .slice q.A q.n q.c, .bool q.gd, .slice q.Ad q.nd q.cd] 27))
  have H00 := Lib.hid (Rb.new h)
  have HV1 := Lib.hid v1
  have HV2 := Lib.hid v2
  have HV3 := Lib.hid v3
  clear v1 v2 v3
  clear h
  go_enter Tryz.func21, Tryz.ntmps21
  go_wp2_with fail
  generalize hW : World.alloc w _ = V
  have hb0 := HB0.out
  have h0 := H00.out
  rw [hW] at hb0 h0
  have HB := Lib.hid hb0
  have H0 := Lib.hid h0
  clear hb0 h0 HB0 H00 hW
  generalize hr : w.heap.size = r at *
  have HRr := Lib.hid hr
  clear hr
  have a0 := H0.out.c0
  have a1 := H0.out.c1
  go_wp2_with fail
  have C := rvalid_any q.g q.A q.n q.c _ q.xs V H0.out.sl.1 (Nat.le_refl _)
  rw [HV1.out] at C
  refine C.mono ?_
  clear C a0 a1
  rintro e w1 ⟨rfl, hb1⟩
  have B1 := Lib.hid (below_chain HB.out (by have := HB.out.size; have := HRr.out; omega) hb1)
  have H1 := Lib.hid (H0.out.on hb1)
  clear hb1 H0 HB
  have a2 := H1.out.c2
  have a3 := H1.out.c3
  go_wp2_with fail
  have C := rvalid_any q.gd q.Ad q.nd q.cd _ q.ys w1 H1.out.sl.2 (Nat.le_refl _)
  rw [HV2.out] at C
  refine C.mono ?_
  clear C a2 a3
  rintro e w2 ⟨rfl, hb2⟩
  have B2 := Lib.hid (below_chain B1.out (by have := B1.out.size; have := HRr.out; omega) hb2)
  have H2 := Lib.hid (H1.out.on hb2)
  clear hb2 H1 B1
  have a2 := H2.out.c2
  rw [HV3.out] at a2
  go_wp2
  go_ret
  exact ⟨rfl, by rw [HRr.out]; exact B2.out⟩
set_option maxHeartbeats 1000000 in
theorem rv2_d (q : RVal) (w : World) (h : q.In w) (v1 : vld q.g q.xs = true) (v2 : vld q.gd q.ys = true) (v3 : q.gd = false) (v4 : decide (q.nd = 0) = true) :
    Calls Tryz.prog 21 #[.agg #[.bool q.g, .slice q.A q.n q.c, .bool q.gd, .slice q.Ad q.nd q.cd]] w fun e w' => e = .returned (.bool (false)) ∧ Below w.heap.size w w' := by
  have HS := Lib.hid h
  have HB0 := Lib.hid (below_new w (.cells #[.bool q.g, .slice q.A q.n q.c, .bool q.gd, .slice q.Ad q.nd q.cd] 27))
  have H00 := Lib.hid (Rb.new h)
  have HV1 := Lib.hid v1
  have HV2 := Lib.hid v2
  have HV3 := Lib.hid v3
  have HV4 := Lib.hid v4
  clear v1 v2 v3 v4
  clear h
  go_enter Tryz.func21, Tryz.ntmps21
  go_wp2_with fail
  generalize hW : World.alloc w _ = V
  have hb0 := HB0.out
  have h0 := H00.out
  rw [hW] at hb0 h0
  have HB := Lib.hid hb0
  have H0 := Lib.hid h0
  clear hb0 h0 HB0 H00 hW
  generalize hr : w.heap.size = r at *
  have HRr := Lib.hid hr
  clear hr
  have a0 := H0.out.c0
  have a1 := H0.out.c1
  go_wp2_with fail
  have C := rvalid_any q.g q.A q.n q.c _ q.xs V H0.out.sl.1 (Nat.le_refl _)
  rw [HV1.out] at C
  refine C.mono ?_
  clear C a0 a1
  rintro e w1 ⟨rfl, hb1⟩
  have B1 := Lib.hid (below_chain HB.out (by have := HB.out.size; have := HRr.out; omega) hb1)
  have H1 := Lib.hid (H0.out.on hb1)
  clear hb1 H0 HB
  have a2 := H1.out.c2
  have a3 := H1.out.c3
  go_wp2_with fail
  have C := rvalid_any q.gd q.Ad q.nd q.cd _ q.ys w1 H1.out.sl.2 (Nat.le_refl _)
  rw [HV2.out] at C
  refine C.mono ?_
  clear C a2 a3
  rintro e w2 ⟨rfl, hb2⟩
  have B2 := Lib.hid (below_chain B1.out (by have := B1.out.size; have := HRr.out; omega) hb2)
  have H2 := Lib.hid (H1.out.on hb2)
  clear hb2 H1 B1
  have a2 := H2.out.c2
  rw [HV3.out] at a2
  have a3 := H2.out.c3
  go_wp2_with fail
  have C := riszero_any false q.Ad q.nd q.cd w2
  rw [HV4.out] at C
  refine C.mono ?_
  clear C a2 a3
  rintro e w3 ⟨rfl, hb3⟩
  have B3 := Lib.hid (below_chain B2.out (by have := B2.out.size; have := HRr.out; omega) hb3)
  have H3 := Lib.hid (H2.out.on hb3)
  clear hb3 H2 B2
  go_wp2
  go_ret
  exact ⟨rfl, by rw [HRr.out]; exact B3.out⟩
set_option maxHeartbeats 1000000 in
theorem rv2_e (q : RVal) (w : World) (h : q.In w) (v1 : vld q.g q.xs = true) (v2 : vld q.gd q.ys = true) (v3 : q.gd = false) (v4 : decide (q.nd = 0) = false) (z e : Int) (v5 : o2Z gcdZ q.o q.od = z) (v6 : o2E gcdZ q.o q.od = e) (v7 : 0 ≤ z) (v8 : z.natAbs < BIG) :
    Calls Tryz.prog 21 #[.agg #[.bool q.g, .slice q.A q.n q.c, .bool q.gd, .slice q.Ad q.nd q.cd]] w fun e w' => e = .returned (.bool (decide (z = 1))) ∧ Below w.heap.size w w' := by
  have HS := Lib.hid h
  have HB0 := Lib.hid (below_new w (.cells #[.bool q.g, .slice q.A q.n q.c, .bool q.gd, .slice q.Ad q.nd q.cd] 27))
  have H00 := Lib.hid (Rb.new h)
  have HV1 := Lib.hid v1
  have HV2 := Lib.hid v2
  have HV3 := Lib.hid v3
  have HV4 := Lib.hid v4
  have HV5 := Lib.hid (And.intro v5 v6)
  have HV7 := Lib.hid (And.intro v7 v8)
  clear v1 v2 v3 v4 v5 v6 v7 v8
  clear h
  go_enter Tryz.func21, Tryz.ntmps21
  go_wp2_with fail
  generalize hW : World.alloc w _ = V
  have hb0 := HB0.out
  have h0 := H00.out
  rw [hW] at hb0 h0
  have HB := Lib.hid hb0
  have H0 := Lib.hid h0
  clear hb0 h0 HB0 H00 hW
  generalize hr : w.heap.size = r at *
  have HRr := Lib.hid hr
  clear hr
  have a0 := H0.out.c0
  have a1 := H0.out.c1
  go_wp2_with fail
  have C := rvalid_any q.g q.A q.n q.c _ q.xs V H0.out.sl.1 (Nat.le_refl _)
  rw [HV1.out] at C
  refine C.mono ?_
  clear C a0 a1
  rintro e1 w1 ⟨rfl, hb1⟩
  have B1 := Lib.hid (below_chain HB.out (by have := HB.out.size; have := HRr.out; omega) hb1)
  have H1 := Lib.hid (H0.out.on hb1)
  clear hb1 H0 HB
  have a2 := H1.out.c2
  have a3 := H1.out.c3
  go_wp2_with fail
  have C := rvalid_any q.gd q.Ad q.nd q.cd _ q.ys w1 H1.out.sl.2 (Nat.le_refl _)
  rw [HV2.out] at C
  refine C.mono ?_
  clear C a2 a3
  rintro e1 w2 ⟨rfl, hb2⟩
  have B2 := Lib.hid (below_chain B1.out (by have := B1.out.size; have := HRr.out; omega) hb2)
  have H2 := Lib.hid (H1.out.on hb2)
  clear hb2 H1 B1
  have a2 := H2.out.c2
  rw [HV3.out] at a2
  have a3 := H2.out.c3
  go_wp2_with fail
  have C := riszero_any false q.Ad q.nd q.cd w2
  rw [HV4.out] at C
  refine C.mono ?_
  clear C a2 a3
  rintro e1 w3 ⟨rfl, hb3⟩
  have B3 := Lib.hid (below_chain B2.out (by have := B2.out.size; have := HRr.out; omega) hb3)
  have H3 := Lib.hid (H2.out.on hb3)
  clear hb3 H2 B2
  have a0 := H3.out.c0
  have a1 := H3.out.c1
  have a2 := H3.out.c2
  have a3 := H3.out.c3
  go_wp2_with fail
  have C := rgcd_ov (neg := q.g) (neg' := q.gd) H3.out.sl.1 H3.out.sl.2
  rw [show o2Z gcdZ (ov q.g q.xs) (ov q.gd q.ys) = z from HV5.out.1, show o2E gcdZ (ov q.g q.xs) (ov q.gd q.ys) = e from HV5.out.2] at C
  refine C.mono ?_
  clear C a0 a1 a2 a3
  rintro e1 w4 ⟨A4, n4, c4, xs4, rfl, hs4, hx4, hv4, hb4⟩
  have B4 := Lib.hid (below_chain B3.out (by have := B3.out.size; have := HRr.out; omega) hb4)
  have G4 := Lib.hid (And.intro hs4 (And.intro hx4 hv4))
  have HD := Lib.hid (show decide (z < 0) = false by have := HV7.out.1; rw [decide_eq_false_iff_not]; omega)
  clear hs4 hx4 hv4 hb4 B3 H3
  rw [HD.out]
  go_wp2_with fail
  generalize hW : World.alloc w4 _ = V4
  have hn := below_new w4 (.cells #[.bool false, .slice A4 n4 c4] 24)
  rw [hW] at hn
  have B5 := Lib.hid (below_chain B4.out (by have := B4.out.size; have := HRr.out; omega) hn)
  have S5 := Lib.hid (G4.out.1.on hn)
  clear hn hW
  have C := risone_any false A4 n4 c4 xs4 V4 S5.out
  rw [show (!false && (decide (n4 = 1) && decide (lim xs4 0 = 1))) = decide (z = 1) from (Bool.true_and _).trans (lim_one S5.out.ok G4.out.2.1 S5.out.len G4.out.2.2 HV7.out.1)] at C
  refine C.mono ?_
  clear C
  rintro e1 w6 ⟨rfl, hb6⟩
  have B6 := Lib.hid (below_chain B5.out (by have := B5.out.size; have := HRr.out; omega) hb6)
  clear hb6 B5
  go_wp2
  go_ret
  exact ⟨rfl, by rw [HRr.out]; exact B6.out⟩
theorem rvalid2 {q : RVal} {w : World} (h : q.In w) : Calls Tryz.prog 21 #[.agg #[.bool q.g, .slice q.A q.n q.c, .bool q.gd, .slice q.Ad q.nd q.cd]] w fun e w' => e = .returned (.bool (rv q.o q.od).isSome) ∧ Below w.heap.size w w' := by
  rcases v1 : vld q.g q.xs with _ | _
  · have := rv2_a q w h v1 _ rfl
    rwa [show (rv q.o q.od).isSome = false by rw [show q.o = none from ov_none v1]; rfl]
  · rcases v2 : vld q.gd q.ys with _ | _
    · have := rv2_b q w h v1 v2
      rwa [show (rv q.o q.od).isSome = false by rw [show q.od = none from ov_none v2]; cases q.o <;> rfl]
    · have e := rvB_rv (g := q.g) (gd := q.gd) h.1.ok h.2.ok h.2.len
      change _ = (rv q.o q.od).isSome at e
      rw [← e]
      have hgd : q.gd = false ∨ q.gd = true := by cases q.gd <;> simp
      rcases hgd with v3 | v3
      · have hnd : decide (q.nd = 0) = false ∨ decide (q.nd = 0) = true := by cases decide (q.nd = 0) <;> simp
        rcases hnd with v4 | v4
        · obtain ⟨a, ha⟩ : ∃ a, q.o = some a := ⟨_, ov_some v1⟩
          obtain ⟨b, hb⟩ : ∃ b, q.od = some b := ⟨_, ov_some v2⟩
          have hg := fitE_gcd (ov_lt h.1.ok ha) (ov_lt h.2.ok hb)
          have C := rv2_e q w h v1 v2 v3 v4 (gcdZ a b) 0 (by rw [ha, hb]; exact hg.2) (by rw [ha, hb]; exact hg.1) (Int.natCast_nonneg _) (gcdZ_lt (ov_lt h.1.ok ha) (ov_lt h.2.ok hb))
          have hh : rvB q.gd q.nd (ov q.g q.xs) (ov q.gd q.ys) = decide (gcdZ a b = 1) := by
            unfold rvB
            rw [show ov q.g q.xs = some a from ha, show ov q.gd q.ys = some b from hb, v3, v4]
            show (true && true && (fitE (gcdZ a b) == 0) && oneB (some (fitZ (gcdZ a b)))) = _
            rw [hg.1, hg.2]
            have h1 := oneB_iff (some (gcdZ a b))
            by_cases hc : gcdZ a b = 1
            · rw [h1.2 (by rw [hc]), decide_eq_true hc]; rfl
            · have : oneB (some (gcdZ a b)) = false := by
                rcases he : oneB (some (gcdZ a b)) with _ | _
                · rfl
                · exact absurd (Option.some.inj (h1.1 he)) hc
              rw [this, decide_eq_false hc]; rfl
          rw [hh]
          exact C
        · have C := rv2_d q w h v1 v2 v3 v4
          rwa [show rvB q.gd q.nd (ov q.g q.xs) (ov q.gd q.ys) = false by unfold rvB; rw [v4]; simp]
      · have C := rv2_c q w h v1 v2 v3
        rwa [show rvB q.gd q.nd (ov q.g q.xs) (ov q.gd q.ys) = false by unfold rvB; rw [v3]; simp]
end Go.Proofs.YtlibjampolcbhaaGreat
