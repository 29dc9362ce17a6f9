/-
  Stage 2: the program's negative and Simplest.
-/
import Derived.Test.YtfodjaeknhomkaaRatEx
import Derived.Test.YtfodjaeknhomkaaRatRw
import Derived.Test.YtfodjaeknhomkaaRatCm
namespace Go.Proofs.Ytfodjaeknhomkaa
open Go.RowKit
/-- A rational of two integers is handed back, alone. -/
def RetNQ (z d : Int) (w : World) (e : Ending) (w' : World) : Prop := ∃ q : RVal, e = .returned (.agg #[.bool q.g, .slice q.A q.n q.c, .bool q.gd, .slice q.Ad q.nd q.cd]) ∧ q.In w' ∧ q.o = some z ∧ q.od = some d ∧ Below w.heap.size w w'
theorem RetNQ.of {z d : Int} {w U : World} {r : Nat} {q : RVal} (h : Rb U r q) (o : q.o = some z) (od : q.od = some d) (hb : Below w.heap.size w U) : RetNQ z d w (.returned (.agg #[.bool q.g, .slice q.A q.n q.c, .bool q.gd, .slice q.Ad q.nd q.cd])) U := ⟨q, rfl, h.sl, o, od, hb⟩
theorem Sl.put1 {w : World} {r n c : Nat} {A : Option Addr} {xs : List Nat} {q : RVal} (h : Sl w w.heap.size A n c xs) (hr : Rb w r q) (g' : Bool) : Sl (w.setCell ⟨r, 0, none⟩ (.bool g')) (w.setCell ⟨r, 0, none⟩ (.bool g')).heap.size A n c xs := by
  have h1 := h.other hr.c0 (fun x e => by cases e) (.bool g')
  simpa [World.setCell] using h1
theorem Rb.put1 {w : World} {r : Nat} {q : RVal} (h : Rb w r q) (g' : Bool) : Rb (w.setCell ⟨r, 0, none⟩ (.bool g')) r ⟨g', q.A, q.n, q.c, q.xs, q.gd, q.Ad, q.nd, q.cd, q.ys⟩ :=
  ⟨by have := Blk.set_ h.bx 0 (.bool g'); exact this, h.sl.1.put1 h g', h.sl.2.put1 h g'⟩
theorem Rb.aside1 {w : World} {r r' : Nat} {q q' : RVal} (h' : Rb w r' q') (h : Rb w r q) (hne : r' ≠ r) (g' : Bool) : Rb (w.setCell ⟨r, 0, none⟩ (.bool g')) r' q' :=
  ⟨Blk.far h'.bx (p := ⟨r, 0, none⟩) hne _, h'.sl.1.put1 h g', h'.sl.2.put1 h g'⟩
set_option linter.unusedSimpArgs false in
set_option maxRecDepth 20000 in
set_option maxHeartbeats 2000000 in
theorem pneg_t (q : RVal) (w : World) (ha : q.In w) (z d : Int) (hg : q.g = true ∧ decide (0 < q.n) = true) (o1 : ov false q.xs = some z) (o2 : q.od = some d) :
    Calls Try.prog 21 #[.agg #[.bool q.g, .slice q.A q.n q.c, .bool q.gd, .slice q.Ad q.nd q.cd]] w (RetNQ z d w) := by
  have HG := hI hg
  have O1 := hI o1
  have O2 := hI o2
  clear hg o1 o2
  have Ia_0 := hI ha
  clear ha
  have B_0 : Hid (Below w.heap.size w w) := hI (Below.refl _ _)
  go_enter Try.func21, Try.ntmps21
  go_upto_region 1 with fail
  generalize hW : World.alloc w _ = W1
  have hn := below_new w (.cells #[.bool q.g, .slice q.A q.n q.c, .bool q.gd, .slice q.Ad q.nd q.cd] 28)
  rw [hW] at hn
  have hz : W1.heap.size = w.heap.size + 1 := by rw [← hW]; simp
  have hx : Rb W1 w.heap.size q := by rw [← hW]; exact Rb.new (q := q) Ia_0.out
  have B_1 := hI (below_chain B_0.out B_0.out.size hn)
  generalize hr : w.heap.size = r at *
  have HRr := hI hr
  clear hr
  have Xa_2 : Hid (Rb W1 r q) := hI hx
  have HT2 := hz
  clear hn hx hz hW B_0 Ia_0
  generalize hW : World.alloc W1 _ = W3
  have hn := below_new W1 (.cells #[.bool false, .slice none 0 0, .bool false, .slice none 0 0] 28)
  rw [hW] at hn
  have hx : Rb W3 W1.heap.size RVal.nil := by rw [← hW]; exact Rb.new (q := RVal.nil) (RVal.nil_in W1)
  have hlt : r < W1.heap.size := Xa_2.out.lt
  have B_3 := hI (bch B_1.out HRr.out hn)
  have Xa_4 := hI (Xa_2.out.on hn)
  rw [HT2] at hx hlt
  have Xe_5 : Hid (Rb W3 (r + 1) RVal.nil) := hI hx
  clear hn hx hW hlt B_1 Xa_2
  clear HT2
  have hg1 : q.g = true := HG.out.1
  obtain ⟨ka0, ka1, ka2, ka3⟩ := Xa_4.out.cs
  obtain ⟨fa0, fa1, fa2, fa3⟩ := Xa_4.out.fs
  have la := Xa_4.out.lt
  obtain ⟨ke0, ke1, ke2, ke3⟩ := Xe_5.out.cs
  obtain ⟨fe0, fe1, fe2, fe3⟩ := Xe_5.out.fs
  simp only [RVal.nil] at ke0 ke1 ke2 ke3
  have le := Xe_5.out.lt
  have nae : r ≠ (r + 1) := by omega
  have nea := nae.symm
  rw [hg1] at ka0
  clear hg1
  go_wp2
  try dsimp only
  clear ka0 ka1 ka2 ka3 fa0 fa1 fa2 fa3 la ke0 ke1 ke2 ke3 fe0 fe1 fe2 fe3 le nae nea
  generalize hW1 : World.setCell W3 _ _ = U1
  have Xa1 : Rb U1 r ⟨false, q.A, q.n, q.c, q.xs, q.gd, q.Ad, q.nd, q.cd, q.ys⟩ := by rw [← hW1]; exact Xa_4.out.put1 _
  have Xe1 : Rb U1 (r + 1) RVal.nil := by rw [← hW1]; exact Xe_5.out.aside1 Xa_4.out (by omega) _
  have B1 : Below r w U1 := by rw [← hW1]; exact B_3.out.setCell (Nat.le_refl r) _
  clear hW1
  generalize hW2 : World.setCell (World.setCell (World.setCell (World.setCell U1 _ _) _ _) _ _) _ _ = U2
  have XE : Rb U2 (r + 1) ⟨false, q.A, q.n, q.c, q.xs, q.gd, q.Ad, q.nd, q.cd, q.ys⟩ := by rw [← hW2]; exact Rb.put (q' := ⟨false, q.A, q.n, q.c, q.xs, q.gd, q.Ad, q.nd, q.cd, q.ys⟩) Xe1 Xa1.sl
  have B2 : Below w.heap.size w U2 := by rw [← hW2, HRr.out]; exact below_put4 B1 (by omega) _ _ _ _
  obtain ⟨j0, j1, j2, j3⟩ := XE.cs
  dsimp only at j0 j1 j2 j3
  refine bodyPost_ret (v := .agg #[.bool false, .slice q.A q.n q.c, .bool q.gd, .slice q.Ad q.nd q.cd]) (by simp [results, Try.results21, go_sem, j0, j1, j2, j3]) rfl ?_
  exact RetNQ.of XE O1.out O2.out B2
set_option linter.unusedSimpArgs false in
set_option maxRecDepth 20000 in
set_option maxHeartbeats 2000000 in
theorem pneg_f (q : RVal) (w : World) (ha : q.In w) (z d : Int) (hg : q.g = false ∧ decide (0 < q.n) = true) (o1 : ov true q.xs = some z) (o2 : q.od = some d) :
    Calls Try.prog 21 #[.agg #[.bool q.g, .slice q.A q.n q.c, .bool q.gd, .slice q.Ad q.nd q.cd]] w (RetNQ z d w) := by
  have HG := hI hg
  have O1 := hI o1
  have O2 := hI o2
  clear hg o1 o2
  have Ia_0 := hI ha
  clear ha
  have B_0 : Hid (Below w.heap.size w w) := hI (Below.refl _ _)
  go_enter Try.func21, Try.ntmps21
  go_upto_region 1 with fail
  generalize hW : World.alloc w _ = W1
  have hn := below_new w (.cells #[.bool q.g, .slice q.A q.n q.c, .bool q.gd, .slice q.Ad q.nd q.cd] 28)
  rw [hW] at hn
  have hz : W1.heap.size = w.heap.size + 1 := by rw [← hW]; simp
  have hx : Rb W1 w.heap.size q := by rw [← hW]; exact Rb.new (q := q) Ia_0.out
  have B_1 := hI (below_chain B_0.out B_0.out.size hn)
  generalize hr : w.heap.size = r at *
  have HRr := hI hr
  clear hr
  have Xa_2 : Hid (Rb W1 r q) := hI hx
  have HT2 := hz
  clear hn hx hz hW B_0 Ia_0
  generalize hW : World.alloc W1 _ = W3
  have hn := below_new W1 (.cells #[.bool false, .slice none 0 0, .bool false, .slice none 0 0] 28)
  rw [hW] at hn
  have hx : Rb W3 W1.heap.size RVal.nil := by rw [← hW]; exact Rb.new (q := RVal.nil) (RVal.nil_in W1)
  have hlt : r < W1.heap.size := Xa_2.out.lt
  have B_3 := hI (bch B_1.out HRr.out hn)
  have Xa_4 := hI (Xa_2.out.on hn)
  rw [HT2] at hx hlt
  have Xe_5 : Hid (Rb W3 (r + 1) RVal.nil) := hI hx
  clear hn hx hW hlt B_1 Xa_2
  clear HT2
  have hg1 : q.g = false := HG.out.1
  have hn1 : decide (0 < q.n) = true := HG.out.2
  obtain ⟨ka0, ka1, ka2, ka3⟩ := Xa_4.out.cs
  obtain ⟨fa0, fa1, fa2, fa3⟩ := Xa_4.out.fs
  have la := Xa_4.out.lt
  obtain ⟨ke0, ke1, ke2, ke3⟩ := Xe_5.out.cs
  obtain ⟨fe0, fe1, fe2, fe3⟩ := Xe_5.out.fs
  simp only [RVal.nil] at ke0 ke1 ke2 ke3
  have le := Xe_5.out.lt
  have nae : r ≠ (r + 1) := by omega
  have nea := nae.symm
  rw [hg1] at ka0
  clear hg1
  go_wp2
  try dsimp only
  clear ka0 ka1 ka2 ka3 fa0 fa1 fa2 fa3 la ke0 ke1 ke2 ke3 fe0 fe1 fe2 fe3 le nae nea
  generalize hW1 : World.setCell W3 _ _ = U1
  have Xa1 : Rb U1 r ⟨true, q.A, q.n, q.c, q.xs, q.gd, q.Ad, q.nd, q.cd, q.ys⟩ := by rw [← hW1]; exact Xa_4.out.put1 _
  have Xe1 : Rb U1 (r + 1) RVal.nil := by rw [← hW1]; exact Xe_5.out.aside1 Xa_4.out (by omega) _
  have B1 : Below r w U1 := by rw [← hW1]; exact B_3.out.setCell (Nat.le_refl r) _
  clear hW1
  generalize hW2 : World.setCell (World.setCell (World.setCell (World.setCell U1 _ _) _ _) _ _) _ _ = U2
  have XE : Rb U2 (r + 1) ⟨true, q.A, q.n, q.c, q.xs, q.gd, q.Ad, q.nd, q.cd, q.ys⟩ := by rw [← hW2]; exact Rb.put (q' := ⟨true, q.A, q.n, q.c, q.xs, q.gd, q.Ad, q.nd, q.cd, q.ys⟩) Xe1 Xa1.sl
  have B2 : Below w.heap.size w U2 := by rw [← hW2, HRr.out]; exact below_put4 B1 (by omega) _ _ _ _
  obtain ⟨j0, j1, j2, j3⟩ := XE.cs
  dsimp only at j0 j1 j2 j3
  refine bodyPost_ret (v := .agg #[.bool true, .slice q.A q.n q.c, .bool q.gd, .slice q.Ad q.nd q.cd]) (by simp [results, Try.results21, go_sem, j0, j1, j2, j3]) rfl ?_
  exact RetNQ.of XE O1.out O2.out B2
set_option linter.unusedSimpArgs false in
set_option maxRecDepth 20000 in
set_option maxHeartbeats 2000000 in
theorem pneg_0 (q : RVal) (w : World) (ha : q.In w) (z d : Int) (hg : q.g = false ∧ decide (0 < q.n) = false) (o1 : ov false q.xs = some z) (o2 : q.od = some d) :
    Calls Try.prog 21 #[.agg #[.bool q.g, .slice q.A q.n q.c, .bool q.gd, .slice q.Ad q.nd q.cd]] w (RetNQ z d w) := by
  have HG := hI hg
  have O1 := hI o1
  have O2 := hI o2
  clear hg o1 o2
  have Ia_0 := hI ha
  clear ha
  have B_0 : Hid (Below w.heap.size w w) := hI (Below.refl _ _)
  go_enter Try.func21, Try.ntmps21
  go_upto_region 1 with fail
  generalize hW : World.alloc w _ = W1
  have hn := below_new w (.cells #[.bool q.g, .slice q.A q.n q.c, .bool q.gd, .slice q.Ad q.nd q.cd] 28)
  rw [hW] at hn
  have hz : W1.heap.size = w.heap.size + 1 := by rw [← hW]; simp
  have hx : Rb W1 w.heap.size q := by rw [← hW]; exact Rb.new (q := q) Ia_0.out
  have B_1 := hI (below_chain B_0.out B_0.out.size hn)
  generalize hr : w.heap.size = r at *
  have HRr := hI hr
  clear hr
  have Xa_2 : Hid (Rb W1 r q) := hI hx
  have HT2 := hz
  clear hn hx hz hW B_0 Ia_0
  generalize hW : World.alloc W1 _ = W3
  have hn := below_new W1 (.cells #[.bool false, .slice none 0 0, .bool false, .slice none 0 0] 28)
  rw [hW] at hn
  have hx : Rb W3 W1.heap.size RVal.nil := by rw [← hW]; exact Rb.new (q := RVal.nil) (RVal.nil_in W1)
  have hlt : r < W1.heap.size := Xa_2.out.lt
  have B_3 := hI (bch B_1.out HRr.out hn)
  have Xa_4 := hI (Xa_2.out.on hn)
  rw [HT2] at hx hlt
  have Xe_5 : Hid (Rb W3 (r + 1) RVal.nil) := hI hx
  clear hn hx hW hlt B_1 Xa_2
  clear HT2
  have hg1 : q.g = false := HG.out.1
  have hn1 : decide (0 < q.n) = false := HG.out.2
  obtain ⟨ka0, ka1, ka2, ka3⟩ := Xa_4.out.cs
  obtain ⟨fa0, fa1, fa2, fa3⟩ := Xa_4.out.fs
  have la := Xa_4.out.lt
  obtain ⟨ke0, ke1, ke2, ke3⟩ := Xe_5.out.cs
  obtain ⟨fe0, fe1, fe2, fe3⟩ := Xe_5.out.fs
  simp only [RVal.nil] at ke0 ke1 ke2 ke3
  have le := Xe_5.out.lt
  have nae : r ≠ (r + 1) := by omega
  have nea := nae.symm
  rw [hg1] at ka0
  clear hg1
  go_wp2
  try dsimp only
  clear ka0 ka1 ka2 ka3 fa0 fa1 fa2 fa3 la ke0 ke1 ke2 ke3 fe0 fe1 fe2 fe3 le nae nea
  generalize hW1 : World.setCell W3 _ _ = U1
  have Xa1 : Rb U1 r ⟨false, q.A, q.n, q.c, q.xs, q.gd, q.Ad, q.nd, q.cd, q.ys⟩ := by rw [← hW1]; exact Xa_4.out.put1 _
  have Xe1 : Rb U1 (r + 1) RVal.nil := by rw [← hW1]; exact Xe_5.out.aside1 Xa_4.out (by omega) _
  have B1 : Below r w U1 := by rw [← hW1]; exact B_3.out.setCell (Nat.le_refl r) _
  clear hW1
  generalize hW2 : World.setCell (World.setCell (World.setCell (World.setCell U1 _ _) _ _) _ _) _ _ = U2
  have XE : Rb U2 (r + 1) ⟨false, q.A, q.n, q.c, q.xs, q.gd, q.Ad, q.nd, q.cd, q.ys⟩ := by rw [← hW2]; exact Rb.put (q' := ⟨false, q.A, q.n, q.c, q.xs, q.gd, q.Ad, q.nd, q.cd, q.ys⟩) Xe1 Xa1.sl
  have B2 : Below w.heap.size w U2 := by rw [← hW2, HRr.out]; exact below_put4 B1 (by omega) _ _ _ _
  obtain ⟨j0, j1, j2, j3⟩ := XE.cs
  dsimp only at j0 j1 j2 j3
  refine bodyPost_ret (v := .agg #[.bool false, .slice q.A q.n q.c, .bool q.gd, .slice q.Ad q.nd q.cd]) (by simp [results, Try.results21, go_sem, j0, j1, j2, j3]) rfl ?_
  exact RetNQ.of XE O1.out O2.out B2
theorem pneg_q {q : RVal} {w : World} {z d : Int} (h : q.In w) (o1 : q.o = some z) (o2 : q.od = some d) : Calls Try.prog 21 #[.agg #[.bool q.g, .slice q.A q.n q.c, .bool q.gd, .slice q.Ad q.nd q.cd]] w (RetNQ (-z) d w) := by
  have o1' : ov q.g q.xs = some z := o1
  have s := ov_sign o1'
  have l := ov_len0 h.1 o1'
  by_cases hz : z = 0
  · subst hz
    have hg : q.g = false := by rw [← s]; rfl
    have hn : q.n = 0 := by have : decide (q.n = 0) = true := l.trans rfl; exact of_decide_eq_true this
    exact pneg_0 q w h (-0) d ⟨hg, by rw [hn]; rfl⟩ (by rw [← hg]; exact o1') o2
  · have fl := ov_flip h.1 o1' hz
    have hn : q.n ≠ 0 := by have : decide (q.n = 0) = false := l.trans (decide_eq_false hz); exact of_decide_eq_false this
    have hp : decide (0 < q.n) = true := decide_eq_true (by omega)
    by_cases hg : q.g = true
    · rw [hg, Bool.not_true] at fl
      exact pneg_t q w h (-z) d ⟨hg, hp⟩ fl o2
    · have hg : q.g = false := by simpa using hg
      rw [hg, Bool.not_false] at fl
      exact pneg_f q w h (-z) d ⟨hg, hp⟩ fl o2
end Go.Proofs.Ytfodjaeknhomkaa
