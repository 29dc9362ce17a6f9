/-
  Stage 2: allValid.
-/
import Derived.Test.YtfodjaeknhomkaaRatC
namespace Go.Proofs.Ytfodjaeknhomkaa
open Go.RowKit
theorem allValid_one (q : RVal) (g : Nat) (o : Bool) (w : World) (h : q.In w) (hB : Blk w g 28 #[.bool q.g, .slice q.A q.n q.c, .bool q.gd, .slice q.Ad q.nd q.cd]) (e : (rv q.o q.od).isSome = o) :
    Calls Try.prog 29 #[.slice (some ⟨g, 0, none⟩) 1 1] w fun e w' => e = .returned (.bool o) ∧ Below w.heap.size w w' := by
  have k0 : w.cell? ⟨g, 0, none⟩ = some (.bool q.g) := by rw [Blk.cell hB 0]; rfl
  have k1 : w.cell? ⟨g, 1, none⟩ = some (.slice q.A q.n q.c) := by rw [Blk.cell hB 1]; rfl
  have k2 : w.cell? ⟨g, 2, none⟩ = some (.bool q.gd) := by rw [Blk.cell hB 2]; rfl
  have k3 : w.cell? ⟨g, 3, none⟩ = some (.slice q.Ad q.nd q.cd) := by rw [Blk.cell hB 3]; rfl
  have HS := Lib.hid h
  have HE := Lib.hid e
  clear h hB e
  rcases o with _ | _
  all_goals
    go_enter Try.func29, Try.ntmps29
    go_wp2
    refine wp_loop_rounds 2 ?_
    rw [rounds_succ]
    go_wp2_with fail
    have C := ratValid_r (HS.out.on (below_new w (.cells #[.bool q.g, .slice q.A q.n q.c, .bool q.gd, .slice q.Ad q.nd q.cd] 28)))
    rw [HE.out] at C
    refine C.mono ?_
    clear C
    rintro e w1 ⟨rfl, hb1⟩
    have HB1 := Lib.hid (below_chain (below_new w (.cells #[.bool q.g, .slice q.A q.n q.c, .bool q.gd, .slice q.Ad q.nd q.cd] 28)) (by simp) hb1)
    clear hb1
    go_wp2
    try (rw [rounds_succ]; go_wp2)
    go_ret
    exact ⟨rfl, HB1.out⟩
theorem allValid_two (q q' : RVal) (g : Nat) (o o' : Bool) (w : World) (h : q.In w) (h' : q'.In w) (hB : Blk w g 28 #[.bool q.g, .slice q.A q.n q.c, .bool q.gd, .slice q.Ad q.nd q.cd, .bool q'.g, .slice q'.A q'.n q'.c, .bool q'.gd, .slice q'.Ad q'.nd q'.cd])
    (e : (rv q.o q.od).isSome = o) (e' : (rv q'.o q'.od).isSome = o') :
    Calls Try.prog 29 #[.slice (some ⟨g, 0, none⟩) 2 2] w fun e w' => e = .returned (.bool (o && o')) ∧ Below w.heap.size w w' := by
  have k0 : w.cell? ⟨g, 0, none⟩ = some (.bool q.g) := by rw [Blk.cell hB 0]; rfl
  have k1 : w.cell? ⟨g, 1, none⟩ = some (.slice q.A q.n q.c) := by rw [Blk.cell hB 1]; rfl
  have k2 : w.cell? ⟨g, 2, none⟩ = some (.bool q.gd) := by rw [Blk.cell hB 2]; rfl
  have k3 : w.cell? ⟨g, 3, none⟩ = some (.slice q.Ad q.nd q.cd) := by rw [Blk.cell hB 3]; rfl
  have HBb := Lib.hid hB
  have HS := Lib.hid h
  have HS' := Lib.hid h'
  have HE := Lib.hid e
  have HE' := Lib.hid e'
  clear h h' hB e e'
  rcases o with _ | _
  · show Calls Try.prog 29 #[.slice (some ⟨g, 0, none⟩) 2 2] w fun e w' => e = .returned (.bool false) ∧ Below w.heap.size w w'
    go_enter Try.func29, Try.ntmps29
    go_wp2
    refine wp_loop_rounds 3 ?_
    rw [rounds_succ]
    go_wp2_with fail
    have C := ratValid_r (HS.out.on (below_new w (.cells #[.bool q.g, .slice q.A q.n q.c, .bool q.gd, .slice q.Ad q.nd q.cd] 28)))
    rw [HE.out] at C
    refine C.mono ?_
    clear C
    rintro e w1 ⟨rfl, hb1⟩
    have HB1 := Lib.hid (below_chain (below_new w (.cells #[.bool q.g, .slice q.A q.n q.c, .bool q.gd, .slice q.Ad q.nd q.cd] 28)) (by simp) hb1)
    clear hb1
    go_wp2
    go_ret
    exact ⟨rfl, HB1.out⟩
  · rcases o' with _ | _
    all_goals
      go_enter Try.func29, Try.ntmps29
      go_wp2
      refine wp_loop_rounds 3 ?_
      rw [rounds_succ]
      go_wp2_with fail
      have C := ratValid_r (HS.out.on (below_new w (.cells #[.bool q.g, .slice q.A q.n q.c, .bool q.gd, .slice q.Ad q.nd q.cd] 28)))
      rw [HE.out] at C
      refine C.mono ?_
      clear C
      rintro e w1 ⟨rfl, hb1⟩
      have hb := below_chain (below_new w (.cells #[.bool q.g, .slice q.A q.n q.c, .bool q.gd, .slice q.Ad q.nd q.cd] 28)) (by simp) hb1
      have HB1 := Lib.hid hb
      have hB1 := Blk.below HBb.out hb (Blk.lt HBb.out)
      have j0 : w1.cell? ⟨g, 4, none⟩ = some (.bool q'.g) := by rw [Blk.cell hB1 4]; rfl
      have j1 : w1.cell? ⟨g, 5, none⟩ = some (.slice q'.A q'.n q'.c) := by rw [Blk.cell hB1 5]; rfl
      have j2 : w1.cell? ⟨g, 6, none⟩ = some (.bool q'.gd) := by rw [Blk.cell hB1 6]; rfl
      have j3 : w1.cell? ⟨g, 7, none⟩ = some (.slice q'.Ad q'.nd q'.cd) := by rw [Blk.cell hB1 7]; rfl
      clear hb1 hb hB1 k0 k1 k2 k3
      go_wp2
      rw [rounds_succ]
      go_wp2_with fail
      have C := ratValid_r ((HS'.out.on HB1.out).on (below_new w1 (.cells #[.bool q'.g, .slice q'.A q'.n q'.c, .bool q'.gd, .slice q'.Ad q'.nd q'.cd] 28)))
      rw [HE'.out] at C
      refine C.mono ?_
      clear C
      rintro e w2 ⟨rfl, hb2⟩
      have HB2 := Lib.hid (below_chain HB1.out HB1.out.size (below_chain (below_new w1 (.cells #[.bool q'.g, .slice q'.A q'.n q'.c, .bool q'.gd, .slice q'.Ad q'.nd q'.cd] 28)) (by simp) hb2))
      clear hb2
      go_wp2
      try (rw [rounds_succ]; go_wp2)
      go_ret
      exact ⟨rfl, HB2.out⟩
end Go.Proofs.Ytfodjaeknhomkaa
