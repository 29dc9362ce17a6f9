/-
  Stage 2: the comparison of rationals whose products are too long: by continued fractions.
-/
import Derived.Deep.LoopGhost
import Derived.Test.YtfodjaeknhomkaaLate
import Derived.Test.YtfodjaeknhomkaaRatJ
import Derived.Test.YtfodjaeknhomkaaRatS
namespace Go.Proofs.Ytfodjaeknhomkaa
open Go.RowKit
/-- What a round finds in memory. -/
structure ClW (w0 : World) (r : Nat) (u : Int) (n d m f : Int) (qa qb : RVal) (wr : World) : Prop where
  ba : Rb wr r qa
  bb : Rb wr (r + 1) qb
  bel : Below r w0 wr
  o1 : qa.o = some n
  o2 : qa.od = some d
  o3 : qb.o = some m
  o4 : qb.od = some f
  pd : 0 < d
  pf : 0 < f
  sg : Int.sign (n * f - m * d) = u
section
variable {w0 : World} {r : Nat} {u n d m f : Int} {qa qb : RVal} {wr wr' : World}
theorem ClW.on (h : ClW w0 r u n d m f qa qb wr) (hb : Below wr.heap.size wr wr') (hr : r ≤ wr.heap.size) : ClW w0 r u n d m f qa qb wr' :=
  ⟨h.ba.on hb, h.bb.on hb, below_chain h.bel hr hb, h.o1, h.o2, h.o3, h.o4, h.pd, h.pf, h.sg⟩
theorem ClW.drew (h : ClW w0 r u n d m f qa qb wr) : ClW w0 r u n d m f qa qb wr.drew :=
  ⟨h.ba.drew, h.bb.drew, h.bel.drew, h.o1, h.o2, h.o3, h.o4, h.pd, h.pf, h.sg⟩
theorem ClW.step (h : ClW w0 r u n d m f qa qb wr) {q1 q2 : RVal} (h1 : q1.In wr) (h2 : q2.In wr) {N1 D1 N2 D2 : Int} (o1 : q1.o = some N1) (o2 : q1.od = some D1) (o3 : q2.o = some N2) (o4 : q2.od = some D2) (p1 : 0 < D1) (p2 : 0 < D2) (hs : Int.sign (N1 * D2 - N2 * D1) = u) :
    ClW w0 r u N1 D1 N2 D2 q1 q2 (put4 (put4 wr r q1.g (.slice q1.A q1.n q1.c) q1.gd (.slice q1.Ad q1.nd q1.cd)) (r + 1) q2.g (.slice q2.A q2.n q2.c) q2.gd (.slice q2.Ad q2.nd q2.cd)) := by
  have n1 : r + 1 ≠ r := by omega
  have e1 := h.ba.put h1
  have e2 := h.bb.pass h.ba n1 q1.g (.slice q1.A q1.n q1.c) q1.gd (.slice q1.Ad q1.nd q1.cd)
  have e3 := h.ba.put_in h2 q1.g (.slice q1.A q1.n q1.c) q1.gd (.slice q1.Ad q1.nd q1.cd)
  exact ⟨e1.pass e2 n1.symm _ _ _ _, e2.put e3, below_put4 (below_put4 h.bel (by omega) _ _ _ _) (by omega) _ _ _ _, o1, o2, o3, o4, p1, p2, hs⟩
end
/-- Quotient and remainder for a positive divisor. -/
theorem dv_pos {n d : Int} (hn : n.natAbs < BIG) (hd : 0 < d) (hd' : d.natAbs < BIG) : dvQ (some n) (some d) = n / d ∧ dvR (some n) (some d) = n % d ∧ (n / d).natAbs < BIG ∧ (n % d).natAbs < BIG := by
  have h0 : d ≠ 0 := by omega
  have e := fq_pos n d hd
  have s := (fq_spec n d h0).1
  have hr : fr n d = n % d := by
    rw [e] at s
    have := Int.emod_add_mul_ediv n d
    rw [Int.mul_comm] at s
    omega
  refine ⟨by rw [dvQ_some, if_neg h0, e], by rw [dvR_some, if_neg h0, hr], ?_, ?_⟩
  · have h1 := Int.emod_nonneg n h0
    have h2 := Int.emod_lt_of_pos n hd
    have h3 := Int.emod_add_mul_ediv n d
    have : (n / d).natAbs ≤ n.natAbs := Int.natAbs_ediv_le_natAbs n d
    omega
  · have h1 := Int.emod_nonneg n h0
    have h2 := Int.emod_lt_of_pos n hd
    omega
theorem cl_differ {n d m f q p r s u : Int} (hq : d * q + r = n) (hp : f * p + s = m) (r0 : 0 ≤ r) (r1 : r < d) (s0 : 0 ≤ s) (s1 : s < f) (h : Int.sign (n * f - m * d) = u) (hne : q ≠ p) : Int.sign (q - p) = u := by
  subst hq; subst hp; rw [← h]
  have e : (d * q + r) * f - (f * p + s) * d = d * f * (q - p) + (r * f - s * d) := by grind
  rw [e]
  have hdf : 0 < d * f := Int.mul_pos (by omega) (by omega)
  have a1 : 0 ≤ r * f := Int.mul_nonneg r0 (by omega)
  have a2 : r * f < d * f := Int.mul_lt_mul_of_pos_right r1 (by omega)
  have a3 : 0 ≤ s * d := Int.mul_nonneg s0 (by omega)
  have a4 : s * d < d * f := by rw [Int.mul_comm d f]; exact Int.mul_lt_mul_of_pos_right s1 (by omega)
  rcases Int.lt_or_gt_of_ne hne with k | k
  · have k1 : d * f * (q - p) ≤ d * f * (-1) := Int.mul_le_mul_of_nonneg_left (by omega) (by omega)
    rw [Int.sign_eq_neg_one_of_neg (by omega), Int.sign_eq_neg_one_of_neg (by omega)]
  · have k1 : d * f * 1 ≤ d * f * (q - p) := Int.mul_le_mul_of_nonneg_left (by omega) (by omega)
    rw [Int.sign_eq_one_of_pos (by omega), Int.sign_eq_one_of_pos (by omega)]
theorem cl_same {n d m f q p r s u : Int} (hq : d * q + r = n) (hp : f * p + s = m) (h : Int.sign (n * f - m * d) = u) (he : q = p) : Int.sign (f * r - d * s) = u := by
  subst hq; subst hp; subst he; rw [← h]
  congr 1; grind
theorem cl_end {d f r s u : Int} (hd : 0 < d) (hf : 0 < f) (r0 : 0 ≤ r) (s0 : 0 ≤ s) (h : Int.sign (f * r - d * s) = u) (he : r = 0 ∨ s = 0) : Int.sign (r - s) = u := by
  rw [← h]
  have a1 : 0 ≤ f * r := Int.mul_nonneg (by omega) r0
  have a2 : 0 ≤ d * s := Int.mul_nonneg (by omega) s0
  rcases he with rfl | rfl
  · rcases Int.lt_or_eq_of_le s0 with k | k
    · have : 0 < d * s := Int.mul_pos hd k
      rw [Int.sign_eq_neg_one_of_neg (by omega), Int.sign_eq_neg_one_of_neg (by omega)]
    · subst k; simp
  · rcases Int.lt_or_eq_of_le r0 with k | k
    · have : 0 < f * r := Int.mul_pos hf k
      rw [Int.sign_eq_one_of_pos (by omega), Int.sign_eq_one_of_pos (by omega)]
    · subst k; simp
/-- The length of a number's slice says whether it is 0. -/
theorem ba_len {w : World} {r : Nat} {g : Bool} {A : Option Addr} {n c : Nat} {xs : List Nat} {z : Int} (h : Ba w r g A n c xs) (ho : ov g xs = some z) : (((n : Int) == 0) = decide (z = 0)) := by
  have hp := ov_parts ho
  by_cases h0 : z = 0
  · rw [decide_eq_true h0]
    have hx : xs = [] := by
      rcases he : xs with _ | ⟨y, ys⟩
      · rfl
      · have := val_pos hp.1 (by rw [he]; simp)
        rw [hp.2.1, h0] at this
        simp at this
    have := h.sl.len
    rw [hx] at this
    simp at this
    simp
    omega
  · rw [decide_eq_false h0, beq_eq_false_iff_ne]
    intro e
    have : xs = [] := List.eq_nil_of_length_eq_zero (by rw [h.sl.len]; omega)
    rw [this] at hp
    have := hp.2.1
    simp [val] at this
    omega
set_option linter.unusedSimpArgs false in
set_option maxRecDepth 20000 in
set_option maxHeartbeats 8000000 in
theorem cmpLong_run (q q' : RVal) (w : World) (h : q.In w) (h' : q'.In w) (n0 d0 m0 f0 u : Int) (i1 : q.o = some n0) (i2 : q.od = some d0) (i3 : q'.o = some m0) (i4 : q'.od = some f0) (i5 : 0 < d0) (i6 : 0 < f0) (i7 : Int.sign (n0 * f0 - m0 * d0) = u) :
    Calls Try.prog 39 #[.agg #[.bool q.g, .slice q.A q.n q.c, .bool q.gd, .slice q.Ad q.nd q.cd], .agg #[.bool q'.g, .slice q'.A q'.n q'.c, .bool q'.gd, .slice q'.Ad q'.nd q'.cd]] w fun e w' => e = .returned (.int .i64 u) ∧ Below w.heap.size w w' := by
  have HS := Lib.hid (And.intro h h')
  have HI := Lib.hid (And.intro i1 (And.intro i2 (And.intro i3 (And.intro i4 (And.intro i5 (And.intro i6 i7))))))
  clear h h' i1 i2 i3 i4 i5 i6 i7
  go_enter Try.func39, Try.ntmps39
  go_wp2_with fail
  generalize hW : World.alloc (World.alloc w _) _ = V
  obtain ⟨hb, ra, rb⟩ := two_rats q q' w V HS.out.1 HS.out.2 hW
  generalize hr : w.heap.size = r at *
  have HRr := Lib.hid hr
  have HX0 : Hid (ClW w r u n0 d0 m0 f0 q q' V) := Lib.hid ⟨ra, rb, hb, HI.out.1, HI.out.2.1, HI.out.2.2.1, HI.out.2.2.2.1, HI.out.2.2.2.2.1, HI.out.2.2.2.2.2.1, HI.out.2.2.2.2.2.2⟩
  clear hW hb hr ra rb
  go_loopg [7] (d0 + f0).toNat (fun gg s7 wr => ∃ (n d m f : Int) (qa qb : RVal) (v7 : Value), s7 = v7 ∧ (d + f).toNat = gg ∧ Hid (ClW w r u n d m f qa qb wr))
  case atStart => exact ⟨n0, d0, m0, f0, q, q', _, rfl, rfl, HX0⟩
  case round =>
    obtain ⟨n, d, m, f, qa, qb, v7, rfl, hk, HX⟩ := hrel
    clear HX0
    have HK := Lib.hid hk
    clear hk
    have HD := Lib.hid (dv_pos (ov_lt HX.out.ba.sl.1.ok HX.out.o1) HX.out.pd (ov_lt HX.out.ba.sl.2.ok HX.out.o2))
    have HF := Lib.hid (dv_pos (ov_lt HX.out.bb.sl.1.ok HX.out.o3) HX.out.pf (ov_lt HX.out.bb.sl.2.ok HX.out.o4))
    obtain ⟨qt, hqt⟩ : ∃ x, n / d = x := ⟨_, rfl⟩
    obtain ⟨rs, hrs⟩ : ∃ x, n % d = x := ⟨_, rfl⟩
    obtain ⟨pt, hpt⟩ : ∃ x, m / f = x := ⟨_, rfl⟩
    obtain ⟨ss, hss⟩ : ∃ x, m % f = x := ⟨_, rfl⟩
    have M := Lib.hid (show (d * qt + rs = n ∧ 0 ≤ rs ∧ rs < d) ∧ f * pt + ss = m ∧ 0 ≤ ss ∧ ss < f from by
      have a1 := HX.out.pd
      have a2 := HX.out.pf
      rw [← hqt, ← hrs, ← hpt, ← hss]
      exact ⟨⟨Int.mul_ediv_add_emod n d, Int.emod_nonneg n (by omega), Int.emod_lt_of_pos n a1⟩, Int.mul_ediv_add_emod m f, Int.emod_nonneg m (by omega), Int.emod_lt_of_pos m a2⟩)
    rw [hqt, hrs] at HD
    rw [hpt, hss] at HF
    clear hqt hrs hpt hss
    have rsz : r ≤ wr.heap.size := by have := HX.out.ba.lt; omega
    have p0 := HX.out.ba.c0
    have p1 := HX.out.ba.c1
    have p2 := HX.out.ba.c2
    have p3 := HX.out.ba.c3
    go_wp2_with fail
    have C := divMod_ov (neg := qa.g) (neg' := qa.gd) HX.out.ba.sl.1 HX.out.ba.sl.2
    rw [show ov qa.g qa.xs = some n from HX.out.o1, show ov qa.gd qa.ys = some d from HX.out.o2, HD.out.1, HD.out.2.1] at C
    refine C.mono ?_
    clear C p0 p1 p2 p3
    generalize dvE (some n) (some d) = er at *
    rintro e w2 ⟨A2, n2, c2, xs2, A3, n3, c3, xs3, rfl, hs2, hx2, hv2, hs3, hx3, hv3, hb2⟩
    have HX2 := Lib.hid (HX.out.on hb2 rsz)
    have O2 := Lib.hid (And.intro (ov_res hs2.ok hx2 hv2 HD.out.2.2.1) (ov_res hs3.ok hx3 hv3 HD.out.2.2.2))
    have S2 := Lib.hid (And.intro hs2 hs3)
    have rsz2 : r ≤ w2.heap.size := Nat.le_trans rsz hb2.size
    clear hs2 hx2 hv2 hs3 hx3 hv3 hb2 HX
    go_upto_region 2 with fail
    generalize hW : World.alloc (World.alloc w2 _) _ = V1
    obtain ⟨hb3, bq, br⟩ := two_boxes (decide (qt < 0)) (decide (rs < 0)) A2 A3 n2 c2 n3 c3 xs2 xs3 w2 V1 S2.out.1 S2.out.2 hW
    have HX3 := Lib.hid (HX2.out.on hb3 rsz2)
    have Q3 := Lib.hid bq
    have R3 := Lib.hid br
    have rsz3 : r ≤ V1.heap.size := Nat.le_trans rsz2 hb3.size
    have lu : r + 1 < w2.heap.size := HX2.out.bb.lt
    clear hb3 bq br hW HX2 S2 rsz2
    generalize w2.heap.size = b1 at *
    have p0 := HX3.out.bb.c0
    have p1 := HX3.out.bb.c1
    have p2 := HX3.out.bb.c2
    have p3 := HX3.out.bb.c3
    go_wp2_with fail
    have C := divMod_ov (neg := qb.g) (neg' := qb.gd) HX3.out.bb.sl.1 HX3.out.bb.sl.2
    rw [show ov qb.g qb.xs = some m from HX3.out.o3, show ov qb.gd qb.ys = some f from HX3.out.o4, HF.out.1, HF.out.2.1] at C
    refine C.mono ?_
    clear C p0 p1 p2 p3
    generalize dvE (some m) (some f) = er2 at *
    rintro e w4 ⟨A4, n4, c4, xs4, A5, n5, c5, xs5, rfl, hs4, hx4, hv4, hs5, hx5, hv5, hb4⟩
    have HX4 := Lib.hid (HX3.out.on hb4 rsz3)
    have Q4 := Lib.hid (Q3.out.on hb4)
    have R4 := Lib.hid (R3.out.on hb4)
    have O4 := Lib.hid (And.intro (ov_res hs4.ok hx4 hv4 HF.out.2.2.1) (ov_res hs5.ok hx5 hv5 HF.out.2.2.2))
    have S4 := Lib.hid (And.intro hs4 hs5)
    have rsz4 : r ≤ w4.heap.size := Nat.le_trans rsz3 hb4.size
    clear hs4 hx4 hv4 hs5 hx5 hv5 hb4 HX3 Q3 R3
    go_upto_region 3 with fail
    generalize hW : World.alloc (World.alloc w4 _) _ = V2
    obtain ⟨hb5, bq, br⟩ := two_boxes (decide (pt < 0)) (decide (ss < 0)) A4 A5 n4 c4 n5 c5 xs4 xs5 w4 V2 S4.out.1 S4.out.2 hW
    have HX5 := Lib.hid (HX4.out.on hb5 rsz4)
    have Q5 := Lib.hid (Q4.out.on hb5)
    have R5 := Lib.hid (R4.out.on hb5)
    have P5 := Lib.hid bq
    have T5 := Lib.hid br
    have rsz5 : r ≤ V2.heap.size := Nat.le_trans rsz4 hb5.size
    have lv : b1 + 1 < w4.heap.size := R4.out.bx.lt
    clear hb5 bq br hW HX4 Q4 R4 S4 rsz4
    generalize w4.heap.size = b2 at *
    have p0 := Q5.out.bx.c0
    have p1 := Q5.out.bx.c1
    have p2 := P5.out.bx.c0
    have p3 := P5.out.bx.c1
    go_wp2_with fail
    obtain ⟨c, hc⟩ : ∃ c, Int.sign (qt - pt) = c := ⟨_, rfl⟩
    have HC := Lib.hid hc
    clear hc
    refine (cmp_ov (neg := decide (qt < 0)) (neg' := decide (pt < 0)) Q5.out.sl P5.out.sl O2.out.1 O4.out.1 HC.out).mono ?_
    rintro e w6 ⟨rfl, hb6⟩
    have HX6 := Lib.hid (HX5.out.on hb6 rsz5)
    have R6 := Lib.hid (R5.out.on hb6)
    have T6 := Lib.hid (T5.out.on hb6)
    have rsz6 : r ≤ w6.heap.size := Nat.le_trans rsz5 hb6.size
    clear p0 p1 p2 p3 hb6 HX5 Q5 R5 P5 T5
    by_cases hne : qt = pt
    · have HE := Lib.hid hne
      have hc0 : c = 0 := by rw [← HC.out, hne, Int.sub_self]; rfl
      subst hc0
      clear hne
      obtain ⟨z1, hz1⟩ : ∃ z, decide (rs = 0) = z := ⟨_, rfl⟩
      obtain ⟨z2, hz2⟩ : ∃ z, decide (ss = 0) = z := ⟨_, rfl⟩
      have g1 : ((n3 : Int) == 0) = z1 := (ba_len R6.out O2.out.2).trans hz1
      have g2 : ((n5 : Int) == 0) = z2 := (ba_len T6.out O4.out.2).trans hz2
      have HZ := Lib.hid (And.intro hz1 hz2)
      clear hz1 hz2
      have p0 := R6.out.bx.c0
      have p1 := R6.out.bx.c1
      have p2 := T6.out.bx.c0
      have p3 := T6.out.bx.c1
      have GO := Lib.hid (And.intro g1 g2)
      by_cases hz : (z1 || z2) = true
      · have hzz : rs = 0 ∨ ss = 0 := by
          rcases z1 with _ | _
          · rcases z2 with _ | _
            · cases hz
            · exact Or.inr (of_decide_eq_true HZ.out.2)
          · exact Or.inl (of_decide_eq_true HZ.out.1)
        have HU := Lib.hid (cl_end HX6.out.pd HX6.out.pf M.out.1.2.1 M.out.2.2.1 (cl_same M.out.1.1 M.out.2.1 HX6.out.sg HE.out) hzz)
        rcases z1 with _ | _ <;> rcases z2 with _ | _
        · cases hz
        all_goals
          clear hz hzz
          go_wp2_with fail
          refine (cmp_ov (neg := decide (rs < 0)) (neg' := decide (ss < 0)) R6.out.sl T6.out.sl O2.out.2 O4.out.2 HU.out).mono ?_
          rintro e w7 ⟨rfl, hb7⟩
          have HX7 := Lib.hid (HX6.out.on hb7 rsz6)
          clear p0 p1 p2 p3 hb7 g1 g2
          go_wp2
          go_ret
          exact ⟨rfl, by rw [HRr.out]; exact HX7.out.bel⟩
      · have hzf : z1 = false ∧ z2 = false := by
          rcases z1 with _ | _
          · rcases z2 with _ | _
            · exact ⟨rfl, rfl⟩
            · exact absurd rfl hz
          · exact absurd rfl hz
        obtain ⟨rfl, rfl⟩ := hzf
        clear hz
        have HP := Lib.hid (show 0 < rs ∧ 0 < ss from ⟨by have := of_decide_eq_false HZ.out.1; have := M.out.1.2.1; omega, by have := of_decide_eq_false HZ.out.2; have := M.out.2.2.1; omega⟩)
        go_upto_region 9 with fail
        clear g1 g2 p0 p1 p2 p3
        have p0 := HX6.out.ba.c0
        have p1 := HX6.out.ba.c1
        have p2 := HX6.out.ba.c2
        have p3 := HX6.out.ba.c3
        have pf0 := HX6.out.ba.f 0
        have pf1 := HX6.out.ba.f 1
        have pf2 := HX6.out.ba.f 2
        have pf3 := HX6.out.ba.f 3
        have n0 := HX6.out.bb.c0
        have n1x := HX6.out.bb.c1
        have n2x := HX6.out.bb.c2
        have n3x := HX6.out.bb.c3
        have nf0 := HX6.out.bb.f 0
        have nf1 := HX6.out.bb.f 1
        have nf2 := HX6.out.bb.f 2
        have nf3 := HX6.out.bb.f 3
        have p4 := R6.out.bx.c0
        have p5 := R6.out.bx.c1
        have p6 := T6.out.bx.c0
        have p7 := T6.out.bx.c1
        have z0 : b1 + 1 ≠ r := by omega
        have z1 := z0.symm
        have z2 : b1 + 1 ≠ r + 1 := by omega
        have z3 := z2.symm
        have z4 : b2 + 1 ≠ r := by omega
        have z5 := z4.symm
        have z6 : b2 + 1 ≠ r + 1 := by omega
        have z7 := z6.symm
        have hC : ∀ (i j : Nat) (w' : World), i ≤ j → ((i = 0 → w'.cell? ⟨r, 2, none⟩ = some (.bool qa.gd) ∧ w'.cell? ⟨r, 3, none⟩ = some (.slice qa.Ad qa.nd qa.cd) ∧ w'.cell? ⟨r + 1, 2, none⟩ = some (.bool qb.gd) ∧ w'.cell? ⟨r + 1, 3, none⟩ = some (.slice qb.Ad qb.nd qb.cd) ∧ w'.cell? ⟨b2 + 1, 0, none⟩ = some (.bool (decide (ss < 0))) ∧ w'.cell? ⟨b2 + 1, 1, none⟩ = some (.slice A5 n5 c5)) ∧ (i ≤ 1 → w'.cell? ⟨b1 + 1, 0, none⟩ = some (.bool (decide (rs < 0))) ∧ w'.cell? ⟨b1 + 1, 1, none⟩ = some (.slice A3 n3 c3))) → ((j = 0 → w'.cell? ⟨r, 2, none⟩ = some (.bool qa.gd) ∧ w'.cell? ⟨r, 3, none⟩ = some (.slice qa.Ad qa.nd qa.cd) ∧ w'.cell? ⟨r + 1, 2, none⟩ = some (.bool qb.gd) ∧ w'.cell? ⟨r + 1, 3, none⟩ = some (.slice qb.Ad qb.nd qb.cd) ∧ w'.cell? ⟨b2 + 1, 0, none⟩ = some (.bool (decide (ss < 0))) ∧ w'.cell? ⟨b2 + 1, 1, none⟩ = some (.slice A5 n5 c5)) ∧ (j ≤ 1 → w'.cell? ⟨b1 + 1, 0, none⟩ = some (.bool (decide (rs < 0))) ∧ w'.cell? ⟨b1 + 1, 1, none⟩ = some (.slice A3 n3 c3))) := fun i j w' hij h => ⟨fun e => h.1 (by omega), fun e => h.2 (by omega)⟩
        have hS : (fun w' : World => (w'.cell? ⟨r, 2, none⟩ = some (.bool qa.gd) ∧ w'.cell? ⟨r, 3, none⟩ = some (.slice qa.Ad qa.nd qa.cd) ∧ w'.cell? ⟨r + 1, 2, none⟩ = some (.bool qb.gd) ∧ w'.cell? ⟨r + 1, 3, none⟩ = some (.slice qb.Ad qb.nd qb.cd) ∧ w'.cell? ⟨b2 + 1, 0, none⟩ = some (.bool (decide (ss < 0))) ∧ w'.cell? ⟨b2 + 1, 1, none⟩ = some (.slice A5 n5 c5)) ∧ w'.cell? ⟨b1 + 1, 0, none⟩ = some (.bool (decide (rs < 0))) ∧ w'.cell? ⟨b1 + 1, 1, none⟩ = some (.slice A3 n3 c3)) w6 := ⟨⟨p2, p3, n2x, n3x, p6, p7⟩, p4, p5⟩
        refine anyL_start (fun j w' => (j = 0 → w'.cell? ⟨r, 2, none⟩ = some (.bool qa.gd) ∧ w'.cell? ⟨r, 3, none⟩ = some (.slice qa.Ad qa.nd qa.cd) ∧ w'.cell? ⟨r + 1, 2, none⟩ = some (.bool qb.gd) ∧ w'.cell? ⟨r + 1, 3, none⟩ = some (.slice qb.Ad qb.nd qb.cd) ∧ w'.cell? ⟨b2 + 1, 0, none⟩ = some (.bool (decide (ss < 0))) ∧ w'.cell? ⟨b2 + 1, 1, none⟩ = some (.slice A5 n5 c5)) ∧ (j ≤ 1 → w'.cell? ⟨b1 + 1, 0, none⟩ = some (.bool (decide (rs < 0))) ∧ w'.cell? ⟨b1 + 1, 1, none⟩ = some (.slice A3 n3 c3))) (fun j => match j with | 1 => 0 | 2 => 0 | 3 => 0 | 5 => 0 | 9 => 2 | _ => 1) (by kernel_rfl) ?_
        have hS : (fun w' : World => (w'.cell? ⟨r, 2, none⟩ = some (.bool qa.gd) ∧ w'.cell? ⟨r, 3, none⟩ = some (.slice qa.Ad qa.nd qa.cd) ∧ w'.cell? ⟨r + 1, 2, none⟩ = some (.bool qb.gd) ∧ w'.cell? ⟨r + 1, 3, none⟩ = some (.slice qb.Ad qb.nd qb.cd) ∧ w'.cell? ⟨b2 + 1, 0, none⟩ = some (.bool (decide (ss < 0))) ∧ w'.cell? ⟨b2 + 1, 1, none⟩ = some (.slice A5 n5 c5)) ∧ w'.cell? ⟨b1 + 1, 0, none⟩ = some (.bool (decide (rs < 0))) ∧ w'.cell? ⟨b1 + 1, 1, none⟩ = some (.slice A3 n3 c3)) w6.drew := by go_keep
        try dsimp only at hS
        refine anyL_take hC 6 (v := .agg #[.bool (decide (rs < 0)), .slice A3 n3 c3]) rfl (by kernel_rfl) (by kernel_rfl) (by kernel_rfl) (by kernel_rfl) (fun _ _ _ h => h) (Or.inl ⟨by rfl, by (intro w' hSw; obtain ⟨fx0, fx1⟩ := hSw.2 (by decide); go_simp)⟩) ⟨fun _ => hS.1, fun _ => hS.2⟩ ?_
        try simp only [Act.put, List.setIfInBounds_toArray, List.set_cons_zero, List.set_cons_succ]
        refine anyL_take hC 0 (v := .pointer (some ⟨r + 1, 2, none⟩)) rfl (by kernel_rfl) (by kernel_rfl) (by kernel_rfl) (by kernel_rfl) (fun _ _ _ h => h) (Or.inl ⟨by rfl, by (intro w' hSw; go_simp)⟩) ⟨fun _ => hS.1, fun _ => hS.2⟩ ?_
        try simp only [Act.put, List.setIfInBounds_toArray, List.set_cons_zero, List.set_cons_succ]
        refine anyL_take hC 4 (v := .pointer (some ⟨r, 2, none⟩)) rfl (by kernel_rfl) (by kernel_rfl) (by kernel_rfl) (by kernel_rfl) (fun _ _ _ h => h) (Or.inl ⟨by rfl, by (intro w' hSw; go_simp)⟩) ⟨fun _ => hS.1, fun _ => hS.2⟩ ?_
        try simp only [Act.put, List.setIfInBounds_toArray, List.set_cons_zero, List.set_cons_succ]
        refine anyL_take hC 5 (v := .agg #[.bool qa.gd, .slice qa.Ad qa.nd qa.cd]) rfl (by kernel_rfl) (by kernel_rfl) (by kernel_rfl) (by kernel_rfl) (fun _ _ _ h => h) (Or.inl ⟨by rfl, by (intro w' hSw; obtain ⟨fx0, fx1, fx2, fx3, fx4, fx5⟩ := hSw.1 rfl; go_simp)⟩) ⟨fun _ => hS.1, fun _ => hS.2⟩ ?_
        try simp only [Act.put, List.setIfInBounds_toArray, List.set_cons_zero, List.set_cons_succ]
        refine anyL_take hC 7 (v := .agg #[.bool qa.gd, .slice qa.Ad qa.nd qa.cd, .bool (decide (rs < 0)), .slice A3 n3 c3]) rfl (by kernel_rfl) (by kernel_rfl) (by kernel_rfl) (by kernel_rfl) (fun _ _ _ h => h) (Or.inl ⟨by rfl, by (intro w' hSw; go_simp)⟩) ⟨fun _ => hS.1, fun _ => hS.2⟩ ?_
        try simp only [Act.put, List.setIfInBounds_toArray, List.set_cons_zero, List.set_cons_succ]
        refine anyL_take hC 1 (v := .agg #[.bool qb.gd, .slice qb.Ad qb.nd qb.cd]) rfl (by kernel_rfl) (by kernel_rfl) (by kernel_rfl) (by kernel_rfl) (fun _ _ _ h => h) (Or.inl ⟨by rfl, by (intro w' hSw; obtain ⟨fx0, fx1, fx2, fx3, fx4, fx5⟩ := hSw.1 rfl; go_simp)⟩) ⟨fun _ => hS.1, fun _ => hS.2⟩ ?_
        try simp only [Act.put, List.setIfInBounds_toArray, List.set_cons_zero, List.set_cons_succ]
        refine anyL_take hC 2 (v := .agg #[.bool (decide (ss < 0)), .slice A5 n5 c5]) rfl (by kernel_rfl) (by kernel_rfl) (by kernel_rfl) (by kernel_rfl) (fun _ _ _ h => h) (Or.inl ⟨by rfl, by (intro w' hSw; obtain ⟨fx0, fx1, fx2, fx3, fx4, fx5⟩ := hSw.1 rfl; go_simp)⟩) ⟨fun _ => hS.1, fun _ => hS.2⟩ ?_
        try simp only [Act.put, List.setIfInBounds_toArray, List.set_cons_zero, List.set_cons_succ]
        refine anyL_take hC 3 (v := .agg #[.bool qb.gd, .slice qb.Ad qb.nd qb.cd, .bool (decide (ss < 0)), .slice A5 n5 c5]) rfl (by kernel_rfl) (by kernel_rfl) (by kernel_rfl) (by kernel_rfl) (fun _ _ _ h => h) (Or.inl ⟨by rfl, by (intro w' hSw; go_simp)⟩) ⟨fun _ => hS.1, fun _ => hS.2⟩ ?_
        try simp only [Act.put, List.setIfInBounds_toArray, List.set_cons_zero, List.set_cons_succ]
        clear hS
        refine anyL_one 8 (by kernel_rfl) rfl (fun KK hKK => ?_)
        go_simp
        refine hKK.out _ _ ⟨fun e => absurd e (by decide), fun _ => (by go_keep)⟩ ?_
        clear hKK KK
        try simp only [Act.put, List.setIfInBounds_toArray, List.set_cons_zero, List.set_cons_succ]
        refine anyL_one 9 (by kernel_rfl) rfl (fun KK hKK => ?_)
        go_simp
        refine hKK.out _ _ ⟨fun e => absurd e (by decide), fun e => absurd e (by decide)⟩ ?_
        clear hKK KK
        try simp only [Act.put, List.setIfInBounds_toArray, List.set_cons_zero, List.set_cons_succ]
        refine anyL_done (by kernel_rfl) ?_ _
        go_wp2_with fail
        generalize hW10 : World.drew (World.setCell (World.setCell (World.setCell (World.setCell (World.setCell (World.setCell (World.setCell (World.setCell (w6) _ _) _ _) _ _) _ _) _ _) _ _) _ _) _ _) = W10
        have Y := ClW.step (q1 := (⟨qb.gd, qb.Ad, qb.nd, qb.cd, qb.ys, decide (ss < 0), A5, n5, c5, xs5⟩ : RVal)) (q2 := (⟨qa.gd, qa.Ad, qa.nd, qa.cd, qa.ys, decide (rs < 0), A3, n3, c3, xs3⟩ : RVal)) HX6.out ⟨HX6.out.bb.sl.2, T6.out.sl⟩ ⟨HX6.out.ba.sl.2, R6.out.sl⟩ HX6.out.o4 O4.out.2 HX6.out.o2 O2.out.2 HP.out.2 HP.out.1 (cl_same M.out.1.1 M.out.2.1 HX6.out.sg HE.out)
        have Y2 := Y.drew
        have Y3 : Hid (ClW w r u f ss d rs (⟨qb.gd, qb.Ad, qb.nd, qb.cd, qb.ys, decide (ss < 0), A5, n5, c5, xs5⟩ : RVal) (⟨qa.gd, qa.Ad, qa.nd, qa.cd, qa.ys, decide (rs < 0), A3, n3, c3, xs3⟩ : RVal) W10) := by rw [← hW10]; exact Lib.hid Y2
        clear hW10 Y Y2 p0 p1 p2 p3 pf0 pf1 pf2 pf3 n0 n1x n2x n3x nf0 nf1 nf2 nf3 p4 p5 p6 p7 z0 z1 z2 z3 z4 z5 z6 z7 HX6 R6 T6 hC
        go_roundg (ss + rs).toNat
        case measure => have a1 := HK.out; have a2 := M.out.1.2.2; have a3 := M.out.2.2.2; have a4 := M.out.1.2.1; have a5 := M.out.2.2.1; omega
        case rel => exact ⟨_, _, _, _, _, _, _, rfl, rfl, Y3⟩
    · have HU := Lib.hid (cl_differ M.out.1.1 M.out.2.1 M.out.1.2.1 M.out.1.2.2 M.out.2.2.1 M.out.2.2.2 HX6.out.sg hne)
      have hcu : c = u := HC.out.symm.trans HU.out
      have hc0 : (c != 0) = true := by
        rw [bne_iff_ne, ← HC.out]
        intro k
        have := Int.sign_eq_zero_iff_zero.1 k
        omega
      go_wp2
      go_ret
      exact ⟨rfl, by rw [HRr.out]; exact HX6.out.bel⟩
end Go.Proofs.Ytfodjaeknhomkaa
