/-
  Stage 2: the reference's Same, where both numbers are the same.
-/
import Derived.Test.YtfodjaeknhomkaaRatU
import Derived.Test.YtfodjaeknhomkaaBaseI
namespace Go.Proofs.Ytfodjaeknhomkaa
open Go.RowKit
theorem ov_same {w w' : World} {B B' n n' c c' : Nat} {A A' : Option Addr} {g g' : Bool} {xs ys : List Nat} {z : Int} (h : Sl w B A n c xs) (h' : Sl w' B' A' n' c' ys) (o : ov g xs = some z) (o' : ov g' ys = some z) : g = g' ∧ xs = ys :=
  ⟨(ov_sign o).symm.trans (ov_sign o'), uniq h.ok h'.ok (ov_parts o).1 (ov_parts o').1 ((ov_parts o).2.1.trans (ov_parts o').2.1.symm)⟩
set_option maxHeartbeats 1000000 in
theorem same_q (q q' : RVal) (w : World) (h : q.In w) (h' : q'.In w) (z zd : Int) (o1 : q.o = some z) (o2 : q.od = some zd) (o3 : q'.o = some z) (o4 : q'.od = some zd) :
    Calls Try.prog 15 #[.agg #[.bool q.g, .slice q.A q.n q.c, .bool q.gd, .slice q.Ad q.nd q.cd], .agg #[.bool q'.g, .slice q'.A q'.n q'.c, .bool q'.gd, .slice q'.Ad q'.nd q'.cd]] w fun e w' => e = .returned (.bool true) ∧ Below w.heap.size w w' := by
  have HO := Lib.hid (And.intro (And.intro o1 o2) (And.intro o3 o4))
  have HS := Lib.hid (And.intro h h')
  clear h h' o1 o2 o3 o4
  go_enter Try.func15, Try.ntmps15
  go_wp2_with fail
  generalize hW : World.alloc (World.alloc w _) _ = V
  obtain ⟨hb, ra, rb⟩ := two_rats q q' w V HS.out.1 HS.out.2 hW
  generalize hr : w.heap.size = r at *
  have HRr := Lib.hid hr
  have HB := Lib.hid hb
  have H0 := Lib.hid (And.intro ra rb)
  clear hW hb hr
  have a0 := ra.c0
  have a1 := ra.c1
  have b0 := rb.c0
  have b1 := rb.c1
  clear ra rb
  go_wp2_with fail
  refine (ints_yes _ _ _ _ _ _ _ _ _ _ V H0.out.1.sl.1 H0.out.2.sl.1 (ov_same H0.out.1.sl.1 H0.out.2.sl.1 HO.out.1.1 HO.out.2.1).1 (ov_same H0.out.1.sl.1 H0.out.2.sl.1 HO.out.1.1 HO.out.2.1).2).mono ?_
  clear a0 a1 b0 b1
  rintro e w1 ⟨rfl, hb1⟩
  have B1 := Lib.hid (below_chain HB.out (by have := HB.out.size; have := HRr.out; omega) hb1)
  have H1 := Lib.hid (show Rb w1 r q ∧ Rb w1 (r + 1) q' from ⟨H0.out.1.on hb1, H0.out.2.on hb1⟩)
  clear hb1 H0 HB
  have a2 := H1.out.1.c2
  have a3 := H1.out.1.c3
  have b2 := H1.out.2.c2
  have b3 := H1.out.2.c3
  go_wp2_with fail
  refine (ints_yes _ _ _ _ _ _ _ _ _ _ w1 H1.out.1.sl.2 H1.out.2.sl.2 (ov_same H1.out.1.sl.2 H1.out.2.sl.2 HO.out.1.2 HO.out.2.2).1 (ov_same H1.out.1.sl.2 H1.out.2.sl.2 HO.out.1.2 HO.out.2.2).2).mono ?_
  clear a2 a3 b2 b3
  rintro e w2 ⟨rfl, hb2⟩
  have B2 := Lib.hid (below_chain B1.out (by have := B1.out.size; have := HRr.out; omega) hb2)
  clear hb2 B1 H1
  go_wp2
  go_ret
  exact ⟨rfl, by rw [HRr.out]; exact B2.out⟩
end Go.Proofs.Ytfodjaeknhomkaa
