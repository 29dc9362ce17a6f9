/-
  Stage 2: Make. Stage 2: Of, of the program's integers and of its rationals, and the law's own of.
-/
import Derived.Test.YtjbnclfbkccieaaGreatDoorRatF
namespace Go.Proofs.YtjbnclfbkccieaaGreatDoor
open Go.RowKit
/-- What Make hands back for two integers. -/
def mkN : Option Int → Option Int → Int
  | some a, some b => if b = 0 then 0 else (Rat.divInt a b).num
  | _, _ => 0
def mkD : Option Int → Option Int → Int
  | some a, some b => if b = 0 then 0 else ((Rat.divInt a b).den : Int)
  | _, _ => 0
def mkE : Option Int → Option Int → Int
  | some _, some b => if b = 0 then 4 else 0
  | _, _ => 1
/-- No rational. -/
def RVal.nil : RVal := ⟨false, none, 0, 0, [], false, none, 0, 0, []⟩
theorem RVal.nil_in (w : World) : RVal.nil.In w := ⟨Sl.nil _ _, Sl.nil _ _⟩
/-- The boxes that Make begins with. -/
theorem mk_boxes (neg neg' : Bool) (A A' : Option Addr) (n c n' c' : Nat) (xs ys : List Nat) (w W : World) (h : Sl w w.heap.size A n c xs) (h' : Sl w w.heap.size A' n' c' ys)
    (hW : ((w.alloc (.cells #[.bool neg, .slice A n c] 25)).alloc (.cells #[.bool neg', .slice A' n' c'] 25)).alloc (.cells #[.bool false, .slice none 0 0, .bool false, .slice none 0 0] 27) = W) :
    Below w.heap.size w W ∧ Ba W w.heap.size neg A n c xs ∧ Ba W (w.heap.size + 1) neg' A' n' c' ys ∧ Rb W (w.heap.size + 1 + 1) RVal.nil := by
  obtain ⟨hb, h1, h2⟩ := two_boxes neg neg' A A' n c n' c' xs ys w _ h h' rfl
  have hn := below_new ((w.alloc (.cells #[.bool neg, .slice A n c] 25)).alloc (.cells #[.bool neg', .slice A' n' c'] 25)) (.cells #[.bool false, .slice none 0 0, .bool false, .slice none 0 0] 27)
  rw [hW] at hn
  refine ⟨below_chain hb hb.size hn, h1.on hn, h2.on hn, ?_⟩
  have := Rb.new (RVal.nil_in ((w.alloc (.cells #[.bool neg, .slice A n c] 25)).alloc (.cells #[.bool neg', .slice A' n' c'] 25)))
  rw [← hW]
  simpa [RVal.nil] using this
/-- The result's box is written. -/
theorem Rb.f4 {w : World} {r : Nat} {q : RVal} (h : Rb w r q) : w.frozen? ⟨r, 0, none⟩ = false ∧ w.frozen? ⟨r, 1, none⟩ = false ∧ w.frozen? ⟨r, 2, none⟩ = false ∧ w.frozen? ⟨r, 3, none⟩ = false := ⟨h.f 0, h.f 1, h.f 2, h.f 3⟩
def put4 (w : World) (r : Nat) (a : Bool) (b : Value) (c : Bool) (d : Value) : World := (((w.setCell ⟨r, 0, none⟩ (.bool a)).setCell ⟨r, 1, none⟩ b).setCell ⟨r, 2, none⟩ (.bool c)).setCell ⟨r, 3, none⟩ d
theorem Sl.put4 {w : World} {r n c : Nat} {q : RVal} {A : Option Addr} {xs : List Nat} (h : Sl w w.heap.size A n c xs) (hr : Blk w r 27 #[.bool q.g, .slice q.A q.n q.c, .bool q.gd, .slice q.Ad q.nd q.cd]) (a : Bool) (b : Value) (d : Bool) (e : Value) : Sl (put4 w r a b d e) (put4 w r a b d e).heap.size A n c xs := by
  have b1 := Blk.set_ hr 0 (.bool a)
  have b2 := Blk.set_ b1 1 b
  have b3 := Blk.set_ b2 2 (.bool d)
  have h1 := h.other (p := ⟨r, 0, none⟩) (by rw [Blk.cell hr 0]; rfl) (fun x e => by cases e) (.bool a)
  have h2 := h1.other (p := ⟨r, 1, none⟩) (u0 := .slice q.A q.n q.c) (by rw [Blk.cell b1 1]; rfl) (fun x e => by cases e) b
  have h3 := h2.other (p := ⟨r, 2, none⟩) (u0 := .bool q.gd) (by rw [Blk.cell b2 2]; rfl) (fun x e => by cases e) (.bool d)
  have h4 := h3.other (p := ⟨r, 3, none⟩) (u0 := .slice q.Ad q.nd q.cd) (by rw [Blk.cell b3 3]; rfl) (fun x e => by cases e) e
  exact h4.more (by simp [Go.Proofs.YtjbnclfbkccieaaGreatDoor.put4, World.setCell])
theorem below_put4 {B : Nat} {a w : World} (h : Below B a w) {r : Nat} (hr : B ≤ r) (x : Bool) (b : Value) (d : Bool) (e : Value) : Below B a (put4 w r x b d e) := (((h.setCell hr _).setCell hr _).setCell hr _).setCell hr _
theorem put4_size (w : World) (r : Nat) (a : Bool) (b : Value) (c : Bool) (d : Value) : (put4 w r a b c d).heap.size = w.heap.size := by simp [put4, World.setCell]
theorem Rb.put {w : World} {r : Nat} {q q' : RVal} (h : Rb w r q) (hq : q'.In w) : Rb (put4 w r q'.g (.slice q'.A q'.n q'.c) q'.gd (.slice q'.Ad q'.nd q'.cd)) r q' := by
  refine ⟨?_, hq.1.put4 h.bx _ _ _ _, hq.2.put4 h.bx _ _ _ _⟩
  have := Blk.set_ (Blk.set_ (Blk.set_ (Blk.set_ h.bx 0 (.bool q'.g)) 1 (.slice q'.A q'.n q'.c)) 2 (.bool q'.gd)) 3 (.slice q'.Ad q'.nd q'.cd)
  exact this
theorem Rb.alloc {w : World} {r : Nat} {q : RVal} (h : Rb w r q) (o : Obj) : Rb (w.alloc o) r q := h.on (below_new _ _)
theorem Rb.aside {w : World} {r r' : Nat} {q : RVal} {neg : Bool} {A : Option Addr} {n c : Nat} {xs : List Nat} (h' : Rb w r' q) (h : Ba w r neg A n c xs) (hne : r' ≠ r) (b : Bool) (v : Value) :
    Rb ((w.setCell ⟨r, 0, none⟩ (.bool b)).setCell ⟨r, 1, none⟩ v) r' q :=
  ⟨Blk.far (Blk.far h'.bx (p := ⟨r, 0, none⟩) hne _) (p := ⟨r, 1, none⟩) hne _, h'.sl.1.ret h.bx b v, h'.sl.2.ret h.bx b v⟩
theorem fq_exact {a c : Int} (hc : c ≠ 0) (h : c ∣ a) : fq a c = a / c ∧ fr a c = 0 := by
  have s := fq_spec a c hc
  exact ex_q s.1 s.2.1 h
theorem make_div {a b : Int} (hb : b ≠ 0) : dvQ (some a) (some (b.sign * gcdZ a b)) = (Rat.divInt a b).num ∧ dvQ (some b) (some (b.sign * gcdZ a b)) = ((Rat.divInt a b).den : Int) := by
  have m := mk_num a b hb
  rw [dvQ_some, dvQ_some, if_neg m.2.2.2.2, if_neg m.2.2.2.2, (fq_exact m.2.2.2.2 m.1).1, (fq_exact m.2.2.2.2 m.2.1).1]
  exact ⟨m.2.2.1, m.2.2.2.1⟩
theorem common_ov {neg' : Bool} {xs1 : List Nat} {a b : Int} (hb : b ≠ 0) (hs : decide (b < 0) = neg') (hx : Ok xs1) (nx : Nz xs1) (e : val xs1 = (gcdZ a b).natAbs) (hz : (gcdZ a b).natAbs < BIG) : ov neg' xs1 = some (b.sign * gcdZ a b) := by
  have m := mk_num a b hb
  have hg : 0 ≤ gcdZ a b := Int.natCast_nonneg _
  have e1 : decide (b.sign * gcdZ a b < 0) = neg' := by
    rw [← hs]
    have h0 := m.2.2.2.2
    rcases Int.lt_or_gt_of_ne hb with h | h
    · rw [Int.sign_eq_neg_one_of_neg h] at h0 ⊢
      simp only [decide_eq_decide]
      omega
    · rw [Int.sign_eq_one_of_pos h] at h0 ⊢
      simp only [decide_eq_decide]
      omega
  have e2 : (b.sign * gcdZ a b).natAbs = (gcdZ a b).natAbs := by rw [Int.natAbs_mul, Int.natAbs_sign_of_ne_zero hb, Nat.one_mul]
  rw [← e1]
  exact ov_res hx nx (by rw [e2]; exact e) (by rw [e2]; exact hz)
theorem RetR.of {z zd er : Int} {w U : World} {r : Nat} {q : RVal} (h : Rb U r q) (hz : q.o = some z) (hd : q.od = some zd) (hb : Below w.heap.size w U) : RetR z zd er w (.returned (.tuple #[.agg #[.bool q.g, .slice q.A q.n q.c, .bool q.gd, .slice q.Ad q.nd q.cd], .int .i64 er])) U := ⟨q, rfl, h.sl, hz, hd, hb⟩
theorem make_bad (neg neg' : Bool) (A A' : Option Addr) (n c n' c' : Nat) (xs ys : List Nat) (w : World) (h : Sl w w.heap.size A n c xs) (h' : Sl w w.heap.size A' n' c' ys) (z er : Int) (he : er ≠ 0)
    (HG : Hid (∀ w : World, Sl w w.heap.size A n c xs → Sl w w.heap.size A' n' c' ys → Calls Tryz.prog 100 #[.agg #[.bool neg, .slice A n c], .agg #[.bool neg', .slice A' n' c']] w (RetIE z er w))) :
    Calls Tryz.prog 46 #[.agg #[.bool neg, .slice A n c], .agg #[.bool neg', .slice A' n' c']] w (RetR 0 0 er w) := by
  have e1 : (er != 0) = true := by simpa using he
  clear he
  have HS := Lib.hid (And.intro h h')
  clear h h'
  go_enter Tryz.func46, Tryz.ntmps46
  go_wp2_with fail
  generalize hW : World.alloc (World.alloc (World.alloc w _) _) _ = V
  obtain ⟨hb, ba, bb, rb⟩ := mk_boxes neg neg' A A' n c n' c' xs ys w V HS.out.1 HS.out.2 hW
  have HB := Lib.hid hb
  clear hW hb
  refine (HG.out V ba.sl bb.sl).mono ?_
  rintro e w1 ⟨A1, n1, c1, xs1, rfl, hs1, hx1, hv1, hb1⟩
  have HB1 := Lib.hid (below_chain HB.out HB.out.size hb1)
  have BA := Lib.hid (ba.on hb1)
  have BB := Lib.hid (bb.on hb1)
  have RB := Lib.hid (rb.on hb1)
  have HR := Lib.hid (And.intro hs1 (And.intro hx1 hv1))
  clear hb1 rb ba bb hs1 hx1 hv1
  have f0 := RB.out.f 0
  have f1 := RB.out.f 1
  have f2 := RB.out.f 2
  have f3 := RB.out.f 3
  have q0 := RB.out.c0
  have q1 := RB.out.c1
  have q2 := RB.out.c2
  have q3 := RB.out.c3
  simp only [RVal.nil] at q0 q1 q2 q3
  have lt1 := RB.out.lt
  go_wp2
  generalize hU : World.alloc (World.setCell (World.setCell (World.setCell (World.setCell w1 _ _) _ _) _ _) _ _) _ = U
  have RU : Rb U (w.heap.size + 1 + 1) RVal.nil := by rw [← hU]; exact (Rb.put RB.out (RVal.nil_in w1)).alloc (.cells #[.bool (decide (z < 0)), .slice A1 n1 c1] 25)
  have HU : Below w.heap.size w U := by rw [← hU]; exact (below_put4 HB1.out (show w.heap.size ≤ w.heap.size + 1 + 1 by omega) _ _ _ _).alloc (by have := HB1.out.size; rw [put4_size]; omega) _
  have j0 := RU.c0
  have j1 := RU.c1
  have j2 := RU.c2
  have j3 := RU.c3
  refine bodyPost_ret (v := .tuple #[.agg #[.bool RVal.nil.g, .slice RVal.nil.A RVal.nil.n RVal.nil.c, .bool RVal.nil.gd, .slice RVal.nil.Ad RVal.nil.nd RVal.nil.cd], .int .i64 er]) (by simp [results, Tryz.results46, go_sem, j0, j1, j2, j3]) rfl ?_
  exact RetR.of RU rfl rfl HU
theorem make_zero (neg neg' : Bool) (A A' : Option Addr) (n c n' c' : Nat) (xs ys : List Nat) (w : World) (h : Sl w w.heap.size A n c xs) (h' : Sl w w.heap.size A' n' c' ys) (z er : Int) (he : er = 0) (hn : n' = 0)
    (HG : Hid (∀ w : World, Sl w w.heap.size A n c xs → Sl w w.heap.size A' n' c' ys → Calls Tryz.prog 100 #[.agg #[.bool neg, .slice A n c], .agg #[.bool neg', .slice A' n' c']] w (RetIE z er w))) :
    Calls Tryz.prog 46 #[.agg #[.bool neg, .slice A n c], .agg #[.bool neg', .slice A' n' c']] w (RetR 0 0 4 w) := by
  subst he
  have hn0 : ((n' : Int) == 0) = true := by rw [hn]; rfl
  clear hn
  have HS := Lib.hid (And.intro h h')
  clear h h'
  go_enter Tryz.func46, Tryz.ntmps46
  go_wp2_with fail
  generalize hW : World.alloc (World.alloc (World.alloc w _) _) _ = V
  obtain ⟨hb, ba, bb, rb⟩ := mk_boxes neg neg' A A' n c n' c' xs ys w V HS.out.1 HS.out.2 hW
  have HB := Lib.hid hb
  clear hW hb
  refine (HG.out V ba.sl bb.sl).mono ?_
  rintro e w1 ⟨A1, n1, c1, xs1, rfl, hs1, hx1, hv1, hb1⟩
  have HB1 := Lib.hid (below_chain HB.out HB.out.size hb1)
  have BA := Lib.hid (ba.on hb1)
  have BB := Lib.hid (bb.on hb1)
  have RB := Lib.hid (rb.on hb1)
  have HR := Lib.hid (And.intro hs1 (And.intro hx1 hv1))
  clear hb1 rb ba bb hs1 hx1 hv1
  have f0 := RB.out.f 0
  have f1 := RB.out.f 1
  have f2 := RB.out.f 2
  have f3 := RB.out.f 3
  have q0 := RB.out.c0
  have q1 := RB.out.c1
  have q2 := RB.out.c2
  have q3 := RB.out.c3
  simp only [RVal.nil] at q0 q1 q2 q3
  have lt1 := RB.out.lt
  have ltb := BB.out.bx.lt
  have kb0 := BB.out.bx.c0
  have kb1 := BB.out.bx.c1
  go_wp2
  generalize hU : World.alloc (World.setCell (World.setCell (World.setCell (World.setCell w1 _ _) _ _) _ _) _ _) _ = U
  have RU : Rb U (w.heap.size + 1 + 1) RVal.nil := by rw [← hU]; exact (Rb.put RB.out (RVal.nil_in w1)).alloc (.cells #[.bool (decide (z < 0)), .slice A1 n1 c1] 25)
  have HU : Below w.heap.size w U := by rw [← hU]; exact (below_put4 HB1.out (show w.heap.size ≤ w.heap.size + 1 + 1 by omega) _ _ _ _).alloc (by have := HB1.out.size; rw [put4_size]; omega) _
  have j0 := RU.c0
  have j1 := RU.c1
  have j2 := RU.c2
  have j3 := RU.c3
  refine bodyPost_ret (v := .tuple #[.agg #[.bool RVal.nil.g, .slice RVal.nil.A RVal.nil.n RVal.nil.c, .bool RVal.nil.gd, .slice RVal.nil.Ad RVal.nil.nd RVal.nil.cd], .int .i64 4]) (by simp [results, Tryz.results46, go_sem, j0, j1, j2, j3]) rfl ?_
  exact RetR.of RU rfl rfl HU
set_option maxHeartbeats 1000000 in
theorem make_good (neg neg' : Bool) (A A' : Option Addr) (n c n' c' : Nat) (xs ys : List Nat) (w : World) (h : Sl w w.heap.size A n c xs) (h' : Sl w w.heap.size A' n' c' ys) (a b : Int) (hx : ov neg xs = some a) (hy : ov neg' ys = some b) (hb0 : b ≠ 0) (N D : Int) (hN : (Rat.divInt a b).num = N) (hD : ((Rat.divInt a b).den : Int) = D) :
    Calls Tryz.prog 46 #[.agg #[.bool neg, .slice A n c], .agg #[.bool neg', .slice A' n' c']] w (RetR N D 0 w) := by
  have hg := fitE_gcd (ov_lt h.ok hx) (ov_lt h'.ok hy)
  have HGs := Lib.hid (gcdZ_lt (ov_lt h.ok hx) (ov_lt h'.ok hy))
  have HG : Hid (∀ w : World, Sl w w.heap.size A n c xs → Sl w w.heap.size A' n' c' ys → Calls Tryz.prog 100 #[.agg #[.bool neg, .slice A n c], .agg #[.bool neg', .slice A' n' c']] w (RetIE (gcdZ a b) 0 w)) := by
    refine Lib.hid fun w h h' => ?_
    have := gcd_ov (neg := neg) (neg' := neg') h h'
    rw [hx, hy] at this
    show Calls Tryz.prog 100 _ w (RetIE (gcdZ a b) 0 w)
    rw [show RetIE (gcdZ a b) 0 w = RetIE (fitZ (gcdZ a b)) (fitE (gcdZ a b)) w by rw [hg.1, hg.2]]
    exact this
  have hn0 : ((n' : Int) == 0) = false := by
    rw [beq_eq_false_iff_ne]
    intro e
    have : ys = [] := List.eq_nil_of_length_eq_zero (by rw [h'.len]; omega)
    have hp := (ov_parts hy).2.1
    rw [this] at hp
    simp [val] at hp
    omega
  have HX := Lib.hid (And.intro hx hy)
  have HS := Lib.hid (And.intro h h')
  have HM := Lib.hid (make_div (a := a) hb0)
  have HND := Lib.hid (And.intro hN hD)
  have HSg := Lib.hid (ov_sign hy)
  have HB0 := Lib.hid hb0
  have HBD := Lib.hid (show N.natAbs < BIG ∧ D.natAbs < BIG by
    have l := divInt_le a b hb0
    have l1 := ov_lt h.ok hx
    have l2 := ov_lt h'.ok hy
    omega)
  clear h h' hg hx hy hN hD hb0
  go_enter Tryz.func46, Tryz.ntmps46
  go_wp2_with fail
  generalize hW : World.alloc (World.alloc (World.alloc w _) _) _ = V
  obtain ⟨hb, ba, bb, rb⟩ := mk_boxes neg neg' A A' n c n' c' xs ys w V HS.out.1 HS.out.2 hW
  have HB := Lib.hid hb
  clear hW hb
  generalize hr : w.heap.size = r at *
  have HRr := Lib.hid hr
  clear hr
  refine (HG.out V ba.sl bb.sl).mono ?_
  rintro e w1 ⟨A1, n1, c1, xs1, rfl, hs1, hx1, hv1, hb1⟩
  have HB1 := Lib.hid (below_chain HB.out (by have := HB.out.size; have := HRr.out; omega) hb1)
  have BA := Lib.hid (ba.on hb1)
  have BB := Lib.hid (bb.on hb1)
  have RB := Lib.hid (rb.on hb1)
  have HO := Lib.hid (common_ov HB0.out HSg.out hs1.ok hx1 hv1 HGs.out)
  have HR := Lib.hid hs1
  clear hb1 rb ba bb hs1 hx1 hv1
  have lta := BA.out.bx.lt
  have ka0 := BA.out.bx.c0
  have ka1 := BA.out.bx.c1
  have ltb := BB.out.bx.lt
  have kb0 := BB.out.bx.c0
  have kb1 := BB.out.bx.c1
  go_wp2_with fail
  generalize hW : World.alloc w1 _ = V1
  have hn1 := below_new w1 (.cells #[.bool neg', .slice A1 n1 c1] 25)
  have HV : Hid (Below r w V1 ∧ Ba V1 r neg A n c xs ∧ Ba V1 (r + 1) neg' A' n' c' ys ∧ Rb V1 (r + 1 + 1) RVal.nil ∧ Ba V1 w1.heap.size neg' A1 n1 c1 xs1) := by
    rw [← hW]
    exact Lib.hid ⟨below_chain HB1.out (by have := HB1.out.size; have := HRr.out; omega) hn1, BA.out.on hn1, BB.out.on hn1, RB.out.on hn1, ⟨Bx.new _ _ _ _ _, HR.out.on hn1⟩⟩
  have hs8 : r + 1 + 1 < w1.heap.size := RB.out.lt
  clear hn1 hW lta ka0 ka1 ltb kb0 kb1 BA BB RB HR HB1
  generalize w1.heap.size = s at *
  have C := divMod_ov (neg := neg) (neg' := neg') HV.out.2.1.sl HV.out.2.2.2.2.sl
  rw [HX.out.1, HO.out, HM.out.1, HND.out.1] at C
  refine C.mono ?_
  clear C
  rintro e w2 ⟨A2, n2, c2, xs2, A2', n2', c2', xs2', rfl, hs2, hx2, hv2, hs2', hx2', hv2', hb2⟩
  have H2 := Lib.hid (And.intro hs2 (And.intro hx2 hv2))
  have HW2 : Hid (Below r w w2 ∧ Ba w2 r neg A n c xs ∧ Ba w2 (r + 1) neg' A' n' c' ys ∧ Rb w2 (r + 1 + 1) RVal.nil ∧ Ba w2 s neg' A1 n1 c1 xs1) :=
    Lib.hid ⟨below_chain HV.out.1 (by have := HV.out.1.size; have := HRr.out; omega) hb2, HV.out.2.1.on hb2, HV.out.2.2.1.on hb2, HV.out.2.2.2.1.on hb2, HV.out.2.2.2.2.on hb2⟩
  clear hs2 hx2 hv2 hs2' hx2' hv2' hb2 HV
  have ka0 := HW2.out.2.1.bx.c0
  have ka1 := HW2.out.2.1.bx.c1
  have fa0 := HW2.out.2.1.bx.f 0
  have fa1 := HW2.out.2.1.bx.f 1
  have kb0 := HW2.out.2.2.1.bx.c0
  have kb1 := HW2.out.2.2.1.bx.c1
  have kc0 := HW2.out.2.2.2.2.bx.c0
  have kc1 := HW2.out.2.2.2.2.bx.c1
  have ne1 : r + 1 ≠ r := by omega
  have ne2 : s ≠ r := by omega
  have ne3 : r + 1 + 1 ≠ r := by omega
  have ne4 : s ≠ r + 1 := by omega
  have ne5 : r + 1 + 1 ≠ r + 1 := by omega
  have ne6 : r ≠ r + 1 := by omega
  go_wp2_with fail
  generalize hW : World.setCell (World.setCell w2 _ _) _ _ = V3
  have HV : Hid (Below r w V3 ∧ Ba V3 r (decide (N < 0)) A2 n2 c2 xs2 ∧ Ba V3 (r + 1) neg' A' n' c' ys ∧ Rb V3 (r + 1 + 1) RVal.nil ∧ Ba V3 s neg' A1 n1 c1 xs1) := by
    rw [← hW]
    exact Lib.hid ⟨below_ret HW2.out.1 (Nat.le_refl _) _ _, HW2.out.2.1.stored H2.out.1 _, HW2.out.2.2.1.aside HW2.out.2.1 ne1 _ _, HW2.out.2.2.2.1.aside HW2.out.2.1 ne3 _ _, HW2.out.2.2.2.2.aside HW2.out.2.1 ne2 _ _⟩
  have HN2 := Lib.hid H2.out.2
  clear ka0 ka1 fa0 fa1 kb0 kb1 kc0 kc1 hW HW2 H2
  have C := divMod_ov (neg := neg') (neg' := neg') HV.out.2.2.1.sl HV.out.2.2.2.2.sl
  rw [HX.out.2, HO.out, HM.out.2, HND.out.2] at C
  refine C.mono ?_
  clear C
  rintro e w4 ⟨A4, n4, c4, xs4, A4', n4', c4', xs4', rfl, hs4, hx4, hv4, hs4', hx4', hv4', hb4⟩
  have H4 := Lib.hid (And.intro hs4 (And.intro hx4 hv4))
  have HW2 : Hid (Below r w w4 ∧ Ba w4 r (decide (N < 0)) A2 n2 c2 xs2 ∧ Ba w4 (r + 1) neg' A' n' c' ys ∧ Rb w4 (r + 1 + 1) RVal.nil) :=
    Lib.hid ⟨below_chain HV.out.1 (by have := HV.out.1.size; have := HRr.out; omega) hb4, HV.out.2.1.on hb4, HV.out.2.2.1.on hb4, HV.out.2.2.2.1.on hb4⟩
  clear hs4 hx4 hv4 hs4' hx4' hv4' hb4 HV
  have ka0 := HW2.out.2.1.bx.c0
  have ka1 := HW2.out.2.1.bx.c1
  have kb0 := HW2.out.2.2.1.bx.c0
  have kb1 := HW2.out.2.2.1.bx.c1
  have fb0 := HW2.out.2.2.1.bx.f 0
  have fb1 := HW2.out.2.2.1.bx.f 1
  have f0 := HW2.out.2.2.2.f 0
  have f1 := HW2.out.2.2.2.f 1
  have f2 := HW2.out.2.2.2.f 2
  have f3 := HW2.out.2.2.2.f 3
  have q0 := HW2.out.2.2.2.c0
  have q1 := HW2.out.2.2.2.c1
  have q2 := HW2.out.2.2.2.c2
  have q3 := HW2.out.2.2.2.c3
  simp only [RVal.nil] at q0 q1 q2 q3
  go_wp2
  generalize hU : World.setCell (World.setCell (World.setCell (World.setCell (World.setCell (World.setCell w4 _ _) _ _) _ _) _ _) _ _) _ _ = U
  have RB5 := HW2.out.2.2.2.aside HW2.out.2.2.1 ne5 (decide (D < 0)) (.slice A4 n4 c4)
  have BA5 := HW2.out.2.1.aside HW2.out.2.2.1 ne6 (decide (D < 0)) (.slice A4 n4 c4)
  have RU' := Rb.put (q' := ⟨decide (N < 0), A2, n2, c2, xs2, decide (D < 0), A4, n4, c4, xs4⟩) RB5 ⟨BA5.sl, H4.out.1.ret HW2.out.2.2.1.bx _ _⟩
  have RU : Rb U (r + 1 + 1) ⟨decide (N < 0), A2, n2, c2, xs2, decide (D < 0), A4, n4, c4, xs4⟩ := by rw [← hU]; exact RU'
  have HU : Below w.heap.size w U := by
    rw [← hU, HRr.out]
    exact below_put4 (below_ret HW2.out.1 (show r ≤ r + 1 by omega) _ _) (show r ≤ r + 1 + 1 by omega) _ _ _ _
  have j0 := RU.c0
  have j1 := RU.c1
  have j2 := RU.c2
  have j3 := RU.c3
  dsimp only at j0 j1 j2 j3
  refine bodyPost_ret (v := .tuple #[.agg #[.bool (decide (N < 0)), .slice A2 n2 c2, .bool (decide (D < 0)), .slice A4 n4 c4], .int .i64 0]) (by simp [results, Tryz.results46, go_sem, j0, j1, j2, j3]) rfl ?_
  exact RetR.of RU (ov_res BA5.sl.ok HN2.out.1 HN2.out.2 HBD.out.1) (ov_res H4.out.1.ok H4.out.2.1 H4.out.2.2 HBD.out.2) HU
theorem make_ov {neg neg' : Bool} {A A' : Option Addr} {n c n' c' : Nat} {xs ys : List Nat} {w : World} (h : Sl w w.heap.size A n c xs) (h' : Sl w w.heap.size A' n' c' ys) :
    Calls Tryz.prog 46 #[.agg #[.bool neg, .slice A n c], .agg #[.bool neg', .slice A' n' c']] w (RetR (mkN (ov neg xs) (ov neg' ys)) (mkD (ov neg xs) (ov neg' ys)) (mkE (ov neg xs) (ov neg' ys)) w) := by
  have C : ∀ w : World, Sl w w.heap.size A n c xs → Sl w w.heap.size A' n' c' ys → Calls Tryz.prog 100 #[.agg #[.bool neg, .slice A n c], .agg #[.bool neg', .slice A' n' c']] w (RetIE (o2Z gcdZ (ov neg xs) (ov neg' ys)) (o2E gcdZ (ov neg xs) (ov neg' ys)) w) :=
    fun w h h' => gcd_ov h h'
  rcases hx : ov neg xs with _ | a
  · rw [hx] at C
    exact make_bad neg neg' A A' n c n' c' xs ys w h h' _ 1 (by decide) (Lib.hid C)
  · rcases hy : ov neg' ys with _ | b
    · rw [hx, hy] at C
      exact make_bad neg neg' A A' n c n' c' xs ys w h h' _ 1 (by decide) (Lib.hid C)
    · show Calls Tryz.prog 46 _ w (RetR (if b = 0 then 0 else (Rat.divInt a b).num) (if b = 0 then 0 else ((Rat.divInt a b).den : Int)) (if b = 0 then 4 else 0) w)
      by_cases hb : b = 0
      · rw [if_pos hb, if_pos hb, if_pos hb]
        have hg := fitE_gcd (ov_lt h.ok hx) (ov_lt h'.ok hy)
        rw [hx, hy] at C
        refine make_zero neg neg' A A' n c n' c' xs ys w h h' _ _ hg.1 ?_ (Lib.hid C)
        have hp := ov_parts hy
        rw [hb] at hp
        rcases ys with _ | ⟨y, ys⟩
        · have := h'.len; simpa using this.symm
        · have := val_pos hp.1 (by simp)
          rw [hp.2.1] at this
          simp at this
      · rw [if_neg hb, if_neg hb, if_neg hb]
        exact make_good neg neg' A A' n c n' c' xs ys w h h' a b hx hy hb _ _ rfl rfl
end Go.Proofs.YtjbnclfbkccieaaGreatDoor
namespace Go.Proofs.YtjbnclfbkccieaaGreatDoor
open Go.RowKit
theorem wrap_of_neg (n : Int) (h1 : -9223372036854775808 ≤ n) (h2 : n < 0) : IntKind.u64.wrap (-(IntKind.u64.wrap n)) = -n := by
  rw [IntKind.wrap_u64, IntKind.wrap_u64]; omega
set_option maxHeartbeats 1000000 in
theorem of_any (n : Int) (w : World) (h1 : -9223372036854775808 ≤ n) (h2 : n ≤ 9223372036854775807) :
    Calls Tryz.prog 28 #[.int .i64 n] w (RetI n w) := by
  have Hb := Lib.hid ((Below.refl w.heap.size w).alloc (Nat.le_refl _) (.cells #[.bool false, .slice none 0 0] 25))
  by_cases h0 : n < 0
  · have W := Lib.hid (wrap_of_neg n h1 h0)
    have Hd := Lib.hid (show true = decide (n < 0) by simp; omega)
    go_enter Tryz.func28, Tryz.ntmps28
    go_wp2_with fail
    rw [W.out]
    refine (ofWord_any (-n) _ (by omega) (by omega)).mono ?_
    rintro e w1 ⟨A1, n1, c1, xs1, rfl, hs1, hx1, hv1, hb1⟩
    have hbx := (Bx.new w false none 0 0).below hb1 (by simp)
    have hc0 := hbx.c0
    have hc1 := hbx.c1
    have hf0 := hbx.f 0
    have hf1 := hbx.f 1
    have Hbx := Lib.hid hbx
    have Hv := Lib.hid hv1
    clear hv1 hbx
    go_wp2
    exact bodyPost_ret (v := .agg #[.bool true, .slice A1 n1 c1]) (by simp [results, Tryz.results28, go_sem, hc0, hc1]) rfl
      ⟨A1, n1, c1, xs1, ret_neg Hd.out, hs1.ret Hbx.out _ _, hx1, by rw [Hv.out]; omega, below_ret (below_chain Hb.out (by simp) hb1) (Nat.le_refl _) _ _⟩
  · have h3 : 0 ≤ n := by omega
    have Hd := Lib.hid (show false = decide (n < 0) by simp; omega)
    go_enter Tryz.func28, Tryz.ntmps28
    go_wp2_with fail
    refine (ofWord_any n _ (by omega) (by omega)).mono ?_
    rintro e w1 ⟨A1, n1, c1, xs1, rfl, hs1, hx1, hv1, hb1⟩
    have hbx := (Bx.new w false none 0 0).below hb1 (by simp)
    have hc0 := hbx.c0
    have hc1 := hbx.c1
    have hf0 := hbx.f 0
    have hf1 := hbx.f 1
    have Hbx := Lib.hid hbx
    have Hv := Lib.hid hv1
    clear hv1 hbx
    go_wp2
    exact bodyPost_ret (v := .agg #[.bool false, .slice A1 n1 c1]) (by simp [results, Tryz.results28, go_sem, hc0, hc1]) rfl
      ⟨A1, n1, c1, xs1, ret_neg Hd.out, hs1.ret Hbx.out _ _, hx1, by rw [Hv.out]; omega, below_ret (below_chain Hb.out (by simp) hb1) (Nat.le_refl _) _ _⟩
/-- What a function hands back: a rational of numerator z and denominator zd. -/
def RetQ (z zd : Int) (w : World) (e : Ending) (w' : World) : Prop := ∃ q : RVal, e = .returned (.agg #[.bool q.g, .slice q.A q.n q.c, .bool q.gd, .slice q.Ad q.nd q.cd]) ∧ q.In w' ∧ q.o = some z ∧ q.od = some zd ∧ Below w.heap.size w w'
theorem RetQ.of {z zd : Int} {w U : World} {r : Nat} {q : RVal} (h : Rb U r q) (hz : q.o = some z) (hd : q.od = some zd) (hb : Below w.heap.size w U) : RetQ z zd w (.returned (.agg #[.bool q.g, .slice q.A q.n q.c, .bool q.gd, .slice q.Ad q.nd q.cd])) U := ⟨q, rfl, h.sl, hz, hd, hb⟩
theorem i64_big {n : Int} (h1 : -9223372036854775808 ≤ n) (h2 : n ≤ 9223372036854775807) : n.natAbs < BIG := by
  rw [big_pw]
  exact Nat.lt_of_lt_of_le (show n.natAbs < pw 64 by unfold pw; omega) (pw_le (by omega))
set_option maxHeartbeats 1000000 in
theorem ratOf_any (n d : Int) (w : World) (h1 : -9223372036854775808 ≤ n) (h2 : n ≤ 9223372036854775807) (h3 : -9223372036854775808 ≤ d) (h4 : d ≤ 9223372036854775807) :
    Calls Tryz.prog 37 #[.int .i64 n, .int .i64 d] w (RetR (mkN (some n) (some d)) (mkD (some n) (some d)) (mkE (some n) (some d)) w) := by
  have HN := Lib.hid (i64_big h1 h2)
  have HD := Lib.hid (i64_big h3 h4)
  generalize hz : mkN (some n) (some d) = z
  generalize hzd : mkD (some n) (some d) = zd
  generalize he : mkE (some n) (some d) = er
  have HZ := Lib.hid (And.intro hz (And.intro hzd he))
  have H12 := Lib.hid (And.intro (And.intro h1 h2) (And.intro h3 h4))
  clear hz hzd he h1 h2 h3 h4
  have R0 := Lib.hid (Rb.new (RVal.nil_in w))
  have B0 := Lib.hid (below_new w (.cells #[.bool RVal.nil.g, .slice RVal.nil.A RVal.nil.n RVal.nil.c, .bool RVal.nil.gd, .slice RVal.nil.Ad RVal.nil.nd RVal.nil.cd] 27))
  go_enter Tryz.func37, Tryz.ntmps37
  go_wp2_with fail
  refine (of_any n _ H12.out.1.1 H12.out.1.2).mono ?_
  rintro e w1 ⟨A1, n1, c1, xs1, rfl, hs1, hx1, hv1, hb1⟩
  have R1 := Lib.hid (R0.out.on hb1)
  have B1 := Lib.hid (below_chain B0.out B0.out.size hb1)
  have O1 := Lib.hid (ov_res hs1.ok hx1 hv1 HN.out)
  have S1 := Lib.hid hs1
  clear hs1 hx1 hv1 hb1 R0 B0
  go_wp2_with fail
  refine (of_any d _ H12.out.2.1 H12.out.2.2).mono ?_
  rintro e w2 ⟨A2, n2, c2, xs2, rfl, hs2, hx2, hv2, hb2⟩
  have R2 := Lib.hid (R1.out.on hb2)
  have B2 := Lib.hid (below_chain B1.out B1.out.size hb2)
  have O2 := Lib.hid (ov_res hs2.ok hx2 hv2 HD.out)
  have S2 := Lib.hid (And.intro (S1.out.on hb2) hs2)
  clear hs2 hx2 hv2 hb2 R1 B1 S1
  go_wp2_with fail
  have C := make_ov (neg := decide (n < 0)) (neg' := decide (d < 0)) S2.out.1 S2.out.2
  rw [O1.out, O2.out, HZ.out.1, HZ.out.2.1, HZ.out.2.2] at C
  refine C.mono ?_
  clear C
  rintro e w3 ⟨q, rfl, hq, ho, hod, hb3⟩
  have R3 := Lib.hid (R2.out.on hb3)
  have B3 := Lib.hid (below_chain B2.out B2.out.size hb3)
  have HQ := Lib.hid (And.intro hq (And.intro ho hod))
  clear hq ho hod hb3 R2 B2 S2 O1 O2
  have f0 := R3.out.f 0
  have f1 := R3.out.f 1
  have f2 := R3.out.f 2
  have f3 := R3.out.f 3
  have q0 := R3.out.c0
  have q1 := R3.out.c1
  have q2 := R3.out.c2
  have q3 := R3.out.c3
  simp only [RVal.nil] at q0 q1 q2 q3
  go_wp2
  generalize hU : World.setCell (World.setCell (World.setCell (World.setCell w3 _ _) _ _) _ _) _ _ = U
  have RU : Rb U w.heap.size q := by rw [← hU]; exact Rb.put R3.out HQ.out.1
  have HU : Below w.heap.size w U := by rw [← hU]; exact below_put4 B3.out (Nat.le_refl _) _ _ _ _
  have j0 := RU.c0
  have j1 := RU.c1
  have j2 := RU.c2
  have j3 := RU.c3
  refine bodyPost_ret (v := .tuple #[.agg #[.bool q.g, .slice q.A q.n q.c, .bool q.gd, .slice q.Ad q.nd q.cd], .int .i64 er]) (by simp [results, Tryz.results37, go_sem, j0, j1, j2, j3]) rfl ?_
  exact RetR.of RU HQ.out.2.1 HQ.out.2.2 HU
end Go.Proofs.YtjbnclfbkccieaaGreatDoor
