/-
  Stage 2: the calls of the laws' sanity, each for its numbers.
-/
import Derived.Test.YtfodjaeknhomkaaRatX
import Derived.Test.YtfodjaeknhomkaaRatQ
import Derived.Test.YtfodjaeknhomkaaRatP
namespace Go.Proofs.Ytfodjaeknhomkaa
open Go.RowKit
/-- An integer of a value is handed back. -/
def RetZ (z er : Int) (w : World) (e : Ending) (w' : World) : Prop := ∃ g A n c xs, e = .returned (.tuple #[.agg #[.bool g, .slice A n c], .int .i64 er]) ∧ Sl w' w'.heap.size A n c xs ∧ ov g xs = some z ∧ Below w.heap.size w w'
def RetZ1 (z : Int) (w : World) (e : Ending) (w' : World) : Prop := ∃ g A n c xs, e = .returned (.agg #[.bool g, .slice A n c]) ∧ Sl w' w'.heap.size A n c xs ∧ ov g xs = some z ∧ Below w.heap.size w w'
section
variable {q q' : RVal} {w : World}
theorem qn (n d : Int) (h : 0 < d) (hg : gcdZ n d = 1) : (Rat.divInt n d).num = n ∧ ((Rat.divInt n d).den : Int) = d := by
  have r := rv_some (rv_mk h hg)
  exact ⟨(Option.some.inj r.1).symm, (Option.some.inj r.2).symm⟩
theorem of_c (n d : Int) (w : World) (hd : 0 < d) (hg : gcdZ n d = 1) (h1 : n.natAbs < 4294967296) (h2 : d.natAbs < 4294967296) : Calls Try.prog 6 #[.int .i64 n, .int .i64 d] w (RetQ n d w) :=
  of_q n d n d w (by omega) (by omega) (by omega) (by omega) ((if_neg (by omega) : mkN (some n) (some d) = _).trans (qn n d hd hg).1) ((if_neg (by omega) : mkD (some n) (some d) = _).trans (qn n d hd hg).2)
theorem qden {n d : Int} (hd : 0 < d) (hg : gcdZ n d = 1) : (Rat.divInt n d).den = d.toNat := by have := (qn n d hd hg).2; omega
theorem add_c (h : q.In w) (h' : q'.In w) (o1 : q.o = some 1) (o2 : q.od = some 2) (o3 : q'.o = some 1) (o4 : q'.od = some 3) : Calls Try.prog 9 #[.agg #[.bool q.g, .slice q.A q.n q.c, .bool q.gd, .slice q.Ad q.nd q.cd], .agg #[.bool q'.g, .slice q'.A q'.n q'.c, .bool q'.gd, .slice q'.Ad q'.nd q'.cd]] w (RetR 5 6 0 w) := by
  have e1 := qn 1 2 (by decide) (by decide)
  have e2 := qn 1 3 (by decide) (by decide)
  have C := add_ok h h' (by rw [o1, o2]; exact rv_mk (by decide) (by decide)) (by rw [o3, o4]; exact rv_mk (by decide) (by decide)) (by rw [e1.1, e2.2]; exact lt_big (by decide)) (by rw [e2.1, e1.2]; exact lt_big (by decide)) (by rw [e1.1, e2.2, e2.1, e1.2]; exact lt_big (by decide)) (by rw [e2.2, e1.2]; exact lt_big (by decide))
  have hs : Rat.divInt 1 2 + Rat.divInt 1 3 = Rat.divInt 5 6 := by rw [Rat.divInt_add_divInt _ _ (by decide) (by decide)]; rfl
  rwa [hs, (qn 5 6 (by decide) (by decide)).1, (qn 5 6 (by decide) (by decide)).2] at C
theorem div_c (h : q.In w) (h' : q'.In w) (o1 : q.o = some 3) (o2 : q.od = some 4) (o3 : q'.o = some (-1)) (o4 : q'.od = some 2) : Calls Try.prog 10 #[.agg #[.bool q.g, .slice q.A q.n q.c, .bool q.gd, .slice q.Ad q.nd q.cd], .agg #[.bool q'.g, .slice q'.A q'.n q'.c, .bool q'.gd, .slice q'.Ad q'.nd q'.cd]] w (RetR (-3) 2 0 w) := by
  have e1 := qn 3 4 (by decide) (by decide)
  have e2 := qn (-1) 2 (by decide) (by decide)
  have C := div_ok h h' (by rw [o1, o2]; exact rv_mk (by decide) (by decide)) (by rw [o3, o4]; exact rv_mk (by decide) (by decide)) (by rw [e2.1]; decide) (by rw [e1.1, e2.2]; exact lt_big (by decide)) (by rw [e2.1, e1.2]; exact lt_big (by decide))
  have hs : Rat.divInt 3 4 / Rat.divInt (-1) 2 = Rat.divInt (-3) 2 := by rw [Rat.div_def, Rat.inv_divInt, Rat.divInt_mul_divInt, Rat.divInt_eq_divInt_iff (by decide) (by decide)]; decide
  rwa [hs, (qn (-3) 2 (by decide) (by decide)).1, (qn (-3) 2 (by decide) (by decide)).2] at C
theorem div_c0 (h : q.In w) (h' : q'.In w) (o1 : q.o = some 3) (o2 : q.od = some 4) (o3 : q'.o = some 0) (o4 : q'.od = some 1) : Calls Try.prog 10 #[.agg #[.bool q.g, .slice q.A q.n q.c, .bool q.gd, .slice q.Ad q.nd q.cd], .agg #[.bool q'.g, .slice q'.A q'.n q'.c, .bool q'.gd, .slice q'.Ad q'.nd q'.cd]] w (RetR 0 0 4 w) := by
  have e1 := qn 3 4 (by decide) (by decide)
  have e2 := qn 0 1 (by decide) (by decide)
  exact div_zero h h' (by rw [o1, o2]; exact rv_mk (by decide) (by decide)) (by rw [o3, o4]; exact rv_mk (by decide) (by decide)) (by rw [e2.1]) (by rw [e1.1, e2.2]; exact lt_big (by decide)) (by rw [e2.1, e1.2]; exact lt_big (by decide))
theorem floor_c (h : q.In w) (o1 : q.o = some (-7)) (o2 : q.od = some 2) : Calls Try.prog 11 #[.agg #[.bool q.g, .slice q.A q.n q.c, .bool q.gd, .slice q.Ad q.nd q.cd], .int .i64 0] w (RetZ (-4) 0 w) := by
  have e1 := qn (-7) 2 (by decide) (by decide)
  have hz : shf (-7) 0 = -7 := by unfold shf; rw [if_pos (by decide)]; decide
  have C := floor_ok q 0 w h (Rat.divInt (-7) 2) (-7) 0 (-4) (by rw [o1, o2]; exact rv_mk (by decide) (by decide)) (by decide) (by decide) (by rw [e1.1, hz]; exact lt_big (by decide)) (by rw [e1.1, hz]) rfl (by rw [e1.2]; decide)
  refine C.mono ?_
  rintro e w1 ⟨A, n, c, xs, rfl, hs, hx, hv, hb⟩
  exact ⟨_, A, n, c, xs, rfl, hs, ov_res hs.ok hx hv (lt_big (by decide)), hb⟩
theorem int_c (z : Int) (w : World) (h : z.natAbs < 4294967296) : Calls Try.prog 17 #[.int .i64 z] w (RetZ1 z w) := by
  refine (of_any z w (by omega) (by omega)).mono ?_
  rintro e w1 ⟨A, n, c, xs, rfl, hs, hx, hv, hb⟩
  exact ⟨_, A, n, c, xs, rfl, hs, ov_res hs.ok hx hv (lt_big h), hb⟩
theorem sqrt_c (h : q.In w) (o1 : q.o = some 9) (o2 : q.od = some 4) : Calls Try.prog 12 #[.agg #[.bool q.g, .slice q.A q.n q.c, .bool q.gd, .slice q.Ad q.nd q.cd]] w (RetRB 3 2 true 0 w) := by
  have e1 := qn 9 4 (by decide) (by decide)
  have e2 := qden (n := 9) (d := 4) (by decide) (by decide)
  exact rsq_yes q w h (Rat.divInt 9 4) 3 2 (by rw [o1, o2]; exact rv_mk (by decide) (by decide)) (by rw [e1.1]; decide) (by rw [e1.1]; decide) (by rw [e1.1]; decide) (by rw [e2]; decide) (by rw [e2]; decide) (by rw [e1.1]; decide) (by rw [e2]; decide)
theorem tx1 : rtx (Rat.divInt (-3) 4) = [45, 51, 47, 52] := by
  have e1 := qn (-3) 4 (by decide) (by decide)
  have e2 := qden (n := -3) (d := 4) (by decide) (by decide)
  unfold rtx
  rw [if_neg (by rw [e2]; decide), e1.1, e1.2, decT_prs (l := [45, 51]) (z := -3) (by decide), decT_prs (l := [52]) (z := 4) (by decide)]
  rfl
theorem tx2 : rtx (Rat.divInt 2 5) = [50, 47, 53] := by
  have e1 := qn 2 5 (by decide) (by decide)
  have e2 := qden (n := 2) (d := 5) (by decide) (by decide)
  unfold rtx
  rw [if_neg (by rw [e2]; decide), e1.1, e1.2, decT_prs (l := [50]) (z := 2) (by decide), decT_prs (l := [53]) (z := 5) (by decide)]
  rfl
theorem text_c1 (h : q.In w) (o1 : q.o = some (-3)) (o2 : q.od = some 4) : Calls Try.prog 13 #[.agg #[.bool q.g, .slice q.A q.n q.c, .bool q.gd, .slice q.Ad q.nd q.cd]] w (RetTx [45, 51, 47, 52] 0 w) := by
  have C := text_q h (x := Rat.divInt (-3) 4) (by rw [o1, o2]; exact rv_mk (by decide) (by decide))
  rwa [tx1] at C
theorem text_c2 (h : q.In w) (o1 : q.o = some 2) (o2 : q.od = some 5) : Calls Try.prog 13 #[.agg #[.bool q.g, .slice q.A q.n q.c, .bool q.gd, .slice q.Ad q.nd q.cd]] w (RetTx [50, 47, 53] 0 w) := by
  have C := text_q h (x := Rat.divInt 2 5) (by rw [o1, o2]; exact rv_mk (by decide) (by decide))
  rwa [tx2] at C
end
theorem pr1 : rprE [54, 47, 56] = 3 := by
  have c1 : (Lib.cut [54, 47, 56] [47] : List UInt8 × List UInt8 × Bool) = ([54], [56], true) := by decide
  have p1 : prs [54] = some 6 := by decide
  have p2 : prs [56] = some 8 := by decide
  have f1 := fit_small (z := 6) (by decide)
  have f2 := fit_small (z := 8) (by decide)
  have z1 : prE [54] = 0 := by unfold prE; rw [p1]; exact f1.2
  have z2 : prE [56] = 0 := by unfold prE; rw [p2]; exact f2.2
  have z3 : prZ [54] = 6 := by unfold prZ; rw [p1]; exact f1.1
  have z4 : prZ [56] = 8 := by unfold prZ; rw [p2]; exact f2.1
  unfold rprE
  rw [c1]
  simp only [z1, z2, z3, z4]
  decide
theorem parse_c (w : World) : Calls Try.prog 14 #[.string { data := #[54, 47, 56] }] w (RetR 0 0 3 w) := by
  have C := parse_r { data := #[54, 47, 56] } w (by decide)
  have e : (({ data := #[54, 47, 56] } : ByteArray)).data.toList = [54, 47, 56] := rfl
  rw [e] at C
  have h1 : rprN [54, 47, 56] = 0 := by unfold rprN; rw [pr1]; rfl
  have h2 : rprD [54, 47, 56] = 0 := by unfold rprD; rw [pr1]; rfl
  rwa [pr1, h1, h2] at C
end Go.Proofs.Ytfodjaeknhomkaa
