/-
  Stage 2: Simplest, where the lower number is not negative.
-/
import Derived.Test.YtfodjaeknhomkaaRatS
namespace Go.Proofs.Ytfodjaeknhomkaa
open Go.RowKit
set_option maxHeartbeats 2000000 in
theorem simplest_low (q q' : RVal) (w : World) (h : q.In w) (h' : q'.In w) (HC : ∀ w', q.In w' → q'.In w' → Calls Try.prog 18 #[.agg #[.bool q.g, .slice q.A q.n q.c, .bool q.gd, .slice q.Ad q.nd q.cd], .agg #[.bool q'.g, .slice q'.A q'.n q'.c, .bool q'.gd, .slice q'.Ad q'.nd q'.cd]] w' (RetC (-1) 0 w')) (hg : q.g = false) (N Dn er : Int)
    (HE : ∀ w', q.In w' → q'.In w' → Calls Try.prog 19 #[.agg #[.bool q.g, .slice q.A q.n q.c, .bool q.gd, .slice q.Ad q.nd q.cd], .agg #[.bool q'.g, .slice q'.A q'.n q'.c, .bool q'.gd, .slice q'.Ad q'.nd q'.cd]] w' (RetR N Dn er w')) :
    Calls Try.prog 5 #[.agg #[.bool q.g, .slice q.A q.n q.c, .bool q.gd, .slice q.Ad q.nd q.cd], .agg #[.bool q'.g, .slice q'.A q'.n q'.c, .bool q'.gd, .slice q'.Ad q'.nd q'.cd]] w (RetR N Dn er w) := by
  have HG := Lib.hid hg
  have HCC := Lib.hid HC
  have HEE := Lib.hid HE
  have HS := Lib.hid (And.intro h h')
  clear hg HC HE h h'
  go_enter Try.func5, Try.ntmps5
  go_wp2_with fail
  generalize hW : World.alloc (World.alloc (World.alloc w _) _) _ = V
  obtain ⟨hb, ra, rb, rr⟩ := two_rats_nil q q' w V HS.out.1 HS.out.2 hW
  generalize hr : w.heap.size = r at *
  have HRr := Lib.hid hr
  have HB := Lib.hid hb
  have H0 := Lib.hid (And.intro ra (And.intro rb rr))
  clear hW hb hr
  have a0 := ra.c0
  have a1 := ra.c1
  have a2 := ra.c2
  have a3 := ra.c3
  have b0 := rb.c0
  have b1 := rb.c1
  have b2 := rb.c2
  have b3 := rb.c3
  clear ra rb rr
  go_wp2_with fail
  refine (HCC.out V H0.out.1.sl H0.out.2.1.sl).mono ?_
  clear a0 a1 a2 a3 b0 b1 b2 b3
  rintro e w1 ⟨rfl, hb1⟩
  have B1 := Lib.hid (below_chain HB.out (by have := HB.out.size; have := HRr.out; omega) hb1)
  have H1 := Lib.hid (show Rb w1 r q ∧ Rb w1 (r + 1) q' ∧ Rb w1 (r + 1 + 1) RVal.nil from ⟨H0.out.1.on hb1, H0.out.2.1.on hb1, H0.out.2.2.on hb1⟩)
  clear hb1 H0 HB
  have a0 : w1.cell? ⟨r, 0, none⟩ = some (.bool false) := by have := H1.out.1.c0; rwa [HG.out] at this
  have a0' : w1.cell? ⟨r, 0, none⟩ = some (.bool q.g) := H1.out.1.c0
  have a1 := H1.out.1.c1
  have a2 := H1.out.1.c2
  have a3 := H1.out.1.c3
  have b0 := H1.out.2.1.c0
  have b1 := H1.out.2.1.c1
  have b2 := H1.out.2.1.c2
  have b3 := H1.out.2.1.c3
  clear a0'
  go_wp2_with fail
  have C := HEE.out w1 H1.out.1.sl H1.out.2.1.sl
  rw [HG.out] at C
  refine C.mono ?_
  clear C a0 a1 a2 a3 b0 b1 b2 b3
  rintro e w2 ⟨t, rfl, ht, ot, otd, hb2⟩
  have B2 := Lib.hid (below_chain B1.out (by have := B1.out.size; have := HRr.out; omega) hb2)
  have R2 := Lib.hid (H1.out.2.2.on hb2)
  have T2 := Lib.hid (And.intro ht (And.intro ot otd))
  clear hb2 ht ot otd B1 H1
  have f0 := R2.out.f 0
  have f1 := R2.out.f 1
  have f2 := R2.out.f 2
  have f3 := R2.out.f 3
  have q0 := R2.out.c0
  have q1 := R2.out.c1
  have q2 := R2.out.c2
  have q3 := R2.out.c3
  simp only [RVal.nil] at q0 q1 q2 q3
  go_wp2
  generalize hU : World.setCell (World.setCell (World.setCell (World.setCell w2 _ _) _ _) _ _) _ _ = U
  have RU' := (Rb.put R2.out T2.out.1)
  have RU : Rb U (r + 1 + 1) t := by rw [← hU]; exact RU'
  have HU : Below w.heap.size w U := by rw [← hU, HRr.out]; exact (below_put4 B2.out (show r ≤ r + 1 + 1 by omega) _ _ _ _)
  have j0 := RU.c0
  have j1 := RU.c1
  have j2 := RU.c2
  have j3 := RU.c3
  refine bodyPost_ret (v := .tuple #[.agg #[.bool t.g, .slice t.A t.n t.c, .bool t.gd, .slice t.Ad t.nd t.cd], .int .i64 er]) (by simp [results, Try.results5, go_sem, j0, j1, j2, j3]) rfl ?_
  exact RetR.of RU T2.out.2.1 T2.out.2.2 HU
end Go.Proofs.Ytfodjaeknhomkaa
