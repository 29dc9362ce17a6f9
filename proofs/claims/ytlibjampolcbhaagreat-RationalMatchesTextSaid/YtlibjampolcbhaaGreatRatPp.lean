/-
  Stage 2: the reference's Parse.
-/
import Derived.Test.YtlibjampolcbhaaGreatRatTs
namespace Go.Proofs.YtlibjampolcbhaaGreat
open Go.RowKit
set_option linter.unusedSimpArgs false in
set_option maxRecDepth 20000 in
set_option maxHeartbeats 2000000 in
theorem rparseq_e1 (s sa sb : ByteArray) (w : World) (K : Nat) (z1 E1 : Int) (hk : (∀ w : World, Calls Tryz.prog 88 #[.string s] w fun e w' => e = .returned (.int .i64 (K : Int)) ∧ Below w.heap.size w w') ∧ K ≤ s.size ∧ s.size ≤ 140737488351232 ∧ s.extract 0 K = sa ∧ s.extract (K + 1) s.size = sb) (p1 : ∀ w : World, Calls Tryz.prog 89 #[.string sa] w (RetZE z1 E1 w)) (h1 : (E1 != 0) = true)  :
    Calls Tryz.prog 45 #[.string s] w (RetR 0 0 E1 w) := by
  have HK := hI hk
  have P1 := hI p1
  have H1 := hI h1
  clear hk p1 h1
  have B_0 : Hid (Below w.heap.size w w) := hI (Below.refl _ _)
  go_enter Tryz.func45, Tryz.ntmps45
  go_wp2_with fail
  generalize hW : World.alloc w _ = W1
  have hn := below_new w (.cells #[.bool false, .slice none 0 0, .bool false, .slice none 0 0] 27)
  rw [hW] at hn
  have hx : Rb W1 w.heap.size RVal.nil := by rw [← hW]; exact Rb.new (q := RVal.nil) (RVal.nil_in w)
  have B_1 := hI (below_chain B_0.out B_0.out.size hn)
  generalize hr : w.heap.size = r at *
  have HRr := hI hr
  clear hr
  have Xe_2 : Hid (Rb W1 r RVal.nil) := hI hx
  clear hn hx hW B_0
  refine (HK.out.1 W1).mono ?_
  rintro e w3 ⟨rfl, hb⟩
  have B_3 := hI (bch B_1.out HRr.out hb)
  have Xe_4 := hI (Xe_2.out.on hb)
  clear hb B_1 Xe_2
  have kz := HK.out.2.1
  have sz := HK.out.2.2.1
  have k0 : (0 : Int) ≤ (K : Int) := Int.natCast_nonneg K
  have k1 : (K : Int) ≤ (s.size : Int) := by omega
  go_wp2_with fail
  try rw [HK.out.2.2.2.1]
  refine (P1.out w3).mono ?_
  rintro e w5 ⟨gn, An, nn, cn, xsn, rfl, hs, ho, hb⟩
  have B_5 := hI (bch B_3.out HRr.out hb)
  have Xe_6 := hI (Xe_4.out.on hb)
  have Jn_7 : Hid (Sl w5 w5.heap.size An nn cn xsn) := hI hs
  clear hb B_3 Xe_4 hs
  have Vn := hI ho
  clear ho
  have hE : (E1 != 0) = true := H1.out
  clear Jn_7
  obtain ⟨ke0, ke1, ke2, ke3⟩ := Xe_6.out.cs
  obtain ⟨fe0, fe1, fe2, fe3⟩ := Xe_6.out.fs
  simp only [RVal.nil] at ke0 ke1 ke2 ke3
  have le := Xe_6.out.lt
  go_wp2
  clear ke0 ke1 ke2 ke3 fe0 fe1 fe2 fe3 le
  generalize hW : World.setCell (World.setCell (World.setCell (World.setCell w5 _ _) _ _) _ _) _ _ = W8
  have B_8 : Hid (Below r w W8) := by rw [← hW]; exact hI (below_put4 B_5.out (by omega) _ _ _ _)
  have Xe_9 : Hid (Rb W8 r RVal.nil) := by rw [← hW]; exact hI (Rb.put (q' := RVal.nil) Xe_6.out (RVal.nil_in w5))
  clear hW B_5 Xe_6
  generalize hW : World.alloc W8 _ = W10
  have hn := below_new W8 (.cells #[.bool gn, .slice An nn cn] 24)
  rw [hW] at hn
  have B_10 := hI (bch B_8.out HRr.out hn)
  have Xe_11 := hI (Xe_9.out.on hn)
  clear hn hW B_8 Xe_9
  obtain ⟨j0, j1, j2, j3⟩ := Xe_11.out.cs
  try dsimp only at j0 j1 j2 j3
  simp only [RVal.nil] at j0 j1 j2 j3
  refine bodyPost_ret (v := .tuple #[.agg #[.bool false, .slice none 0 0, .bool false, .slice none 0 0], .int .i64 E1]) (by simp [results, Tryz.results45, go_sem, j0, j1, j2, j3]) rfl ?_
  exact RetR.of Xe_11.out rfl rfl (by rw [HRr.out]; exact B_10.out)
set_option linter.unusedSimpArgs false in
set_option maxRecDepth 20000 in
set_option maxHeartbeats 2000000 in
theorem rparseq_n (s sa sb : ByteArray) (w : World) (K : Nat) (z1 E1 : Int) (hk : (∀ w : World, Calls Tryz.prog 88 #[.string s] w fun e w' => e = .returned (.int .i64 (K : Int)) ∧ Below w.heap.size w w') ∧ K ≤ s.size ∧ s.size ≤ 140737488351232 ∧ s.extract 0 K = sa ∧ s.extract (K + 1) s.size = sb) (p1 : ∀ w : World, Calls Tryz.prog 89 #[.string sa] w (RetZE z1 E1 w)) (h1 : (E1 != 0) = false) (hf : ((K : Int) == (s.size : Int)) = true)  :
    Calls Tryz.prog 45 #[.string s] w (RetR z1 1 0 w) := by
  have HK := hI hk
  have P1 := hI p1
  have H1 := hI h1
  have HF := hI hf
  clear hk p1 h1 hf
  have B_0 : Hid (Below w.heap.size w w) := hI (Below.refl _ _)
  go_enter Tryz.func45, Tryz.ntmps45
  go_wp2_with fail
  generalize hW : World.alloc w _ = W1
  have hn := below_new w (.cells #[.bool false, .slice none 0 0, .bool false, .slice none 0 0] 27)
  rw [hW] at hn
  have hx : Rb W1 w.heap.size RVal.nil := by rw [← hW]; exact Rb.new (q := RVal.nil) (RVal.nil_in w)
  have B_1 := hI (below_chain B_0.out B_0.out.size hn)
  generalize hr : w.heap.size = r at *
  have HRr := hI hr
  clear hr
  have Xe_2 : Hid (Rb W1 r RVal.nil) := hI hx
  clear hn hx hW B_0
  refine (HK.out.1 W1).mono ?_
  rintro e w3 ⟨rfl, hb⟩
  have B_3 := hI (bch B_1.out HRr.out hb)
  have Xe_4 := hI (Xe_2.out.on hb)
  clear hb B_1 Xe_2
  have kz := HK.out.2.1
  have sz := HK.out.2.2.1
  have k0 : (0 : Int) ≤ (K : Int) := Int.natCast_nonneg K
  have k1 : (K : Int) ≤ (s.size : Int) := by omega
  go_wp2_with fail
  try rw [HK.out.2.2.2.1]
  refine (P1.out w3).mono ?_
  rintro e w5 ⟨gn, An, nn, cn, xsn, rfl, hs, ho, hb⟩
  have B_5 := hI (bch B_3.out HRr.out hb)
  have Xe_6 := hI (Xe_4.out.on hb)
  have Jn_7 : Hid (Sl w5 w5.heap.size An nn cn xsn) := hI hs
  clear hb B_3 Xe_4 hs
  have Vn := hI ho
  clear ho
  have hE : (E1 != 0) = false := H1.out
  go_wp2_with fail
  generalize hW : World.alloc w5 _ = W8
  have hn := below_new w5 (.cells #[.bool gn, .slice An nn cn] 24)
  rw [hW] at hn
  have hx : Ba W8 w5.heap.size gn An nn cn xsn := by rw [← hW]; exact ⟨Bx.new w5 _ _ _ _, Jn_7.out.on (below_new _ _)⟩
  have hlt : r < w5.heap.size := Xe_6.out.lt
  have B_8 := hI (bch B_5.out HRr.out hn)
  have Xe_9 := hI (Xe_6.out.on hn)
  generalize hbb : w5.heap.size = b1 at *
  clear hbb
  have Zn_10 : Hid (Ba W8 b1 gn An nn cn xsn) := hI hx
  have O10 := hI hlt
  clear hn hx hW hlt B_5 Xe_6 Jn_7
  refine (rof_z 1 W8 (by decide) (by decide)).mono ?_
  rintro e w11 ⟨go, Ao, no, co, xso, rfl, hs, ho, hb⟩
  have B_11 := hI (bch B_8.out HRr.out hb)
  have Xe_12 := hI (Xe_9.out.on hb)
  have Zn_13 := hI (Zn_10.out.on hb)
  have Jo_14 : Hid (Sl w11 w11.heap.size Ao no co xso) := hI hs
  clear hb B_8 Xe_9 Zn_10 hs
  have Vo := hI ho
  clear ho
  have hf : ((K : Int) == (s.size : Int)) = true := HF.out
  obtain ⟨kn0, kn1⟩ := (Zn_13.out.on (below_new w11 (.cells #[.bool go, .slice Ao no co] 24))).cs
  have ln := Zn_13.out.bx.lt
  obtain ⟨ke0, ke1, ke2, ke3⟩ := Xe_12.out.cs
  obtain ⟨fe0, fe1, fe2, fe3⟩ := Xe_12.out.fs
  simp only [RVal.nil] at ke0 ke1 ke2 ke3
  have le := Xe_12.out.lt
  have nen : r ≠ b1 := by have := O10.out; omega
  have nne := nen.symm
  go_wp2
  clear kn0 kn1 ln ke0 ke1 ke2 ke3 fe0 fe1 fe2 fe3 le nen nne
  have Ik_15 : Hid ((⟨gn, An, nn, cn, xsn, go, Ao, no, co, xso⟩ : RVal).In w11) := hI ⟨Zn_13.out.sl, Jo_14.out⟩
  clear Zn_13 Jo_14
  generalize hW : World.setCell (World.setCell (World.setCell (World.setCell w11 _ _) _ _) _ _) _ _ = W16
  have B_16 : Hid (Below r w W16) := by rw [← hW]; exact hI (below_put4 B_11.out (by omega) _ _ _ _)
  have Xe_17 : Hid (Rb W16 r (⟨gn, An, nn, cn, xsn, go, Ao, no, co, xso⟩ : RVal)) := by rw [← hW]; exact hI (Rb.put (q' := (⟨gn, An, nn, cn, xsn, go, Ao, no, co, xso⟩ : RVal)) Xe_12.out Ik_15.out)
  clear hW B_11 Xe_12 Ik_15
  generalize hW : World.alloc W16 _ = W18
  have hn := below_new W16 (.cells #[.bool go, .slice Ao no co] 24)
  rw [hW] at hn
  have B_18 := hI (bch B_16.out HRr.out hn)
  have Xe_19 := hI (Xe_17.out.on hn)
  clear hn hW B_16 Xe_17
  obtain ⟨j0, j1, j2, j3⟩ := Xe_19.out.cs
  try dsimp only at j0 j1 j2 j3
  refine bodyPost_ret (v := .tuple #[.agg #[.bool (gn), .slice An nn cn, .bool (go), .slice Ao no co], .int .i64 0]) (by simp [results, Tryz.results45, go_sem, j0, j1, j2, j3]) rfl ?_
  exact RetR.of Xe_19.out Vn.out Vo.out (by rw [HRr.out]; exact B_18.out)
set_option linter.unusedSimpArgs false in
set_option maxRecDepth 20000 in
set_option maxHeartbeats 2000000 in
theorem rparseq_e2 (s sa sb : ByteArray) (w : World) (K : Nat) (z1 z2 E1 E2 : Int) (hk : (∀ w : World, Calls Tryz.prog 88 #[.string s] w fun e w' => e = .returned (.int .i64 (K : Int)) ∧ Below w.heap.size w w') ∧ K ≤ s.size ∧ s.size ≤ 140737488351232 ∧ s.extract 0 K = sa ∧ s.extract (K + 1) s.size = sb) (p1 : ∀ w : World, Calls Tryz.prog 89 #[.string sa] w (RetZE z1 E1 w)) (h1 : (E1 != 0) = false) (hf : ((K : Int) == (s.size : Int)) = false ∧ K + 1 ≤ s.size) (p2 : ∀ w : World, Calls Tryz.prog 89 #[.string sb] w (RetZE z2 E2 w)) (h2 : (E2 != 0) = true)  :
    Calls Tryz.prog 45 #[.string s] w (RetR 0 0 E2 w) := by
  have HK := hI hk
  have P1 := hI p1
  have H1 := hI h1
  have HF := hI hf
  have P2 := hI p2
  have H2 := hI h2
  clear hk p1 h1 hf p2 h2
  have B_0 : Hid (Below w.heap.size w w) := hI (Below.refl _ _)
  go_enter Tryz.func45, Tryz.ntmps45
  go_wp2_with fail
  generalize hW : World.alloc w _ = W1
  have hn := below_new w (.cells #[.bool false, .slice none 0 0, .bool false, .slice none 0 0] 27)
  rw [hW] at hn
  have hx : Rb W1 w.heap.size RVal.nil := by rw [← hW]; exact Rb.new (q := RVal.nil) (RVal.nil_in w)
  have B_1 := hI (below_chain B_0.out B_0.out.size hn)
  generalize hr : w.heap.size = r at *
  have HRr := hI hr
  clear hr
  have Xe_2 : Hid (Rb W1 r RVal.nil) := hI hx
  clear hn hx hW B_0
  refine (HK.out.1 W1).mono ?_
  rintro e w3 ⟨rfl, hb⟩
  have B_3 := hI (bch B_1.out HRr.out hb)
  have Xe_4 := hI (Xe_2.out.on hb)
  clear hb B_1 Xe_2
  have kz := HK.out.2.1
  have sz := HK.out.2.2.1
  have k0 : (0 : Int) ≤ (K : Int) := Int.natCast_nonneg K
  have k1 : (K : Int) ≤ (s.size : Int) := by omega
  go_wp2_with fail
  try rw [HK.out.2.2.2.1]
  refine (P1.out w3).mono ?_
  rintro e w5 ⟨gn, An, nn, cn, xsn, rfl, hs, ho, hb⟩
  have B_5 := hI (bch B_3.out HRr.out hb)
  have Xe_6 := hI (Xe_4.out.on hb)
  have Jn_7 : Hid (Sl w5 w5.heap.size An nn cn xsn) := hI hs
  clear hb B_3 Xe_4 hs
  have Vn := hI ho
  clear ho
  have hE : (E1 != 0) = false := H1.out
  go_wp2_with fail
  generalize hW : World.alloc w5 _ = W8
  have hn := below_new w5 (.cells #[.bool gn, .slice An nn cn] 24)
  rw [hW] at hn
  have hx : Ba W8 w5.heap.size gn An nn cn xsn := by rw [← hW]; exact ⟨Bx.new w5 _ _ _ _, Jn_7.out.on (below_new _ _)⟩
  have hlt : r < w5.heap.size := Xe_6.out.lt
  have B_8 := hI (bch B_5.out HRr.out hn)
  have Xe_9 := hI (Xe_6.out.on hn)
  generalize hbb : w5.heap.size = b1 at *
  clear hbb
  have Zn_10 : Hid (Ba W8 b1 gn An nn cn xsn) := hI hx
  have O10 := hI hlt
  clear hn hx hW hlt B_5 Xe_6 Jn_7
  refine (rof_z 1 W8 (by decide) (by decide)).mono ?_
  rintro e w11 ⟨go, Ao, no, co, xso, rfl, hs, ho, hb⟩
  have B_11 := hI (bch B_8.out HRr.out hb)
  have Xe_12 := hI (Xe_9.out.on hb)
  have Zn_13 := hI (Zn_10.out.on hb)
  have Jo_14 : Hid (Sl w11 w11.heap.size Ao no co xso) := hI hs
  clear hb B_8 Xe_9 Zn_10 hs
  have Vo := hI ho
  clear ho
  have hf : ((K : Int) == (s.size : Int)) = false := HF.out.1
  have hf2 : K + 1 ≤ s.size := HF.out.2
  go_wp2_with fail
  try rw [HK.out.2.2.2.2]
  generalize hW : World.alloc w11 _ = W15
  have hn := below_new w11 (.cells #[.bool go, .slice Ao no co] 24)
  rw [hW] at hn
  have hx : Ba W15 w11.heap.size go Ao no co xso := by rw [← hW]; exact ⟨Bx.new w11 _ _ _ _, Jo_14.out.on (below_new _ _)⟩
  have hlt : b1 < w11.heap.size := Zn_13.out.bx.lt
  have B_15 := hI (bch B_11.out HRr.out hn)
  have Xe_16 := hI (Xe_12.out.on hn)
  have Zn_17 := hI (Zn_13.out.on hn)
  generalize hbb : w11.heap.size = b2 at *
  clear hbb
  have Zo_18 : Hid (Ba W15 b2 go Ao no co xso) := hI hx
  have O18 := hI hlt
  clear hn hx hW hlt B_11 Xe_12 Zn_13 Jo_14
  refine (P2.out W15).mono ?_
  rintro e w19 ⟨gd, Ad, nd, cd, xsd, rfl, hs, ho, hb⟩
  have B_19 := hI (bch B_15.out HRr.out hb)
  have Xe_20 := hI (Xe_16.out.on hb)
  have Zn_21 := hI (Zn_17.out.on hb)
  have Zo_22 := hI (Zo_18.out.on hb)
  have Jd_23 : Hid (Sl w19 w19.heap.size Ad nd cd xsd) := hI hs
  clear hb B_15 Xe_16 Zn_17 Zo_18 hs
  have Vd := hI ho
  clear ho
  have hE : (E2 != 0) = true := H2.out
  clear Zn_21 Zo_22 Jd_23
  obtain ⟨ke0, ke1, ke2, ke3⟩ := Xe_20.out.cs
  obtain ⟨fe0, fe1, fe2, fe3⟩ := Xe_20.out.fs
  simp only [RVal.nil] at ke0 ke1 ke2 ke3
  have le := Xe_20.out.lt
  go_wp2
  clear ke0 ke1 ke2 ke3 fe0 fe1 fe2 fe3 le
  generalize hW : World.setCell (World.setCell (World.setCell (World.setCell w19 _ _) _ _) _ _) _ _ = W24
  have B_24 : Hid (Below r w W24) := by rw [← hW]; exact hI (below_put4 B_19.out (by omega) _ _ _ _)
  have Xe_25 : Hid (Rb W24 r RVal.nil) := by rw [← hW]; exact hI (Rb.put (q' := RVal.nil) Xe_20.out (RVal.nil_in w19))
  clear hW B_19 Xe_20
  generalize hW : World.alloc W24 _ = W26
  have hn := below_new W24 (.cells #[.bool gd, .slice Ad nd cd] 24)
  rw [hW] at hn
  have B_26 := hI (bch B_24.out HRr.out hn)
  have Xe_27 := hI (Xe_25.out.on hn)
  clear hn hW B_24 Xe_25
  obtain ⟨j0, j1, j2, j3⟩ := Xe_27.out.cs
  try dsimp only at j0 j1 j2 j3
  simp only [RVal.nil] at j0 j1 j2 j3
  refine bodyPost_ret (v := .tuple #[.agg #[.bool false, .slice none 0 0, .bool false, .slice none 0 0], .int .i64 E2]) (by simp [results, Tryz.results45, go_sem, j0, j1, j2, j3]) rfl ?_
  exact RetR.of Xe_27.out rfl rfl (by rw [HRr.out]; exact B_26.out)
set_option linter.unusedSimpArgs false in
set_option maxRecDepth 20000 in
set_option maxHeartbeats 2000000 in
theorem rparseq_b1 (s sa sb : ByteArray) (w : World) (K : Nat) (z1 z2 E1 E2 : Int) (hk : (∀ w : World, Calls Tryz.prog 88 #[.string s] w fun e w' => e = .returned (.int .i64 (K : Int)) ∧ Below w.heap.size w w') ∧ K ≤ s.size ∧ s.size ≤ 140737488351232 ∧ s.extract 0 K = sa ∧ s.extract (K + 1) s.size = sb) (p1 : ∀ w : World, Calls Tryz.prog 89 #[.string sa] w (RetZE z1 E1 w)) (h1 : (E1 != 0) = false) (hf : ((K : Int) == (s.size : Int)) = false ∧ K + 1 ≤ s.size) (p2 : ∀ w : World, Calls Tryz.prog 89 #[.string sb] w (RetZE z2 E2 w)) (h2 : (E2 != 0) = false) (hv : (rv (some z1) (some z2)).isSome = false ∧ True) :
    Calls Tryz.prog 45 #[.string s] w (RetR 0 0 3 w) := by
  have HK := hI hk
  have P1 := hI p1
  have H1 := hI h1
  have HF := hI hf
  have P2 := hI p2
  have H2 := hI h2
  have HV := hI hv
  clear hk p1 h1 hf p2 h2 hv
  have B_0 : Hid (Below w.heap.size w w) := hI (Below.refl _ _)
  go_enter Tryz.func45, Tryz.ntmps45
  go_wp2_with fail
  generalize hW : World.alloc w _ = W1
  have hn := below_new w (.cells #[.bool false, .slice none 0 0, .bool false, .slice none 0 0] 27)
  rw [hW] at hn
  have hx : Rb W1 w.heap.size RVal.nil := by rw [← hW]; exact Rb.new (q := RVal.nil) (RVal.nil_in w)
  have B_1 := hI (below_chain B_0.out B_0.out.size hn)
  generalize hr : w.heap.size = r at *
  have HRr := hI hr
  clear hr
  have Xe_2 : Hid (Rb W1 r RVal.nil) := hI hx
  clear hn hx hW B_0
  refine (HK.out.1 W1).mono ?_
  rintro e w3 ⟨rfl, hb⟩
  have B_3 := hI (bch B_1.out HRr.out hb)
  have Xe_4 := hI (Xe_2.out.on hb)
  clear hb B_1 Xe_2
  have kz := HK.out.2.1
  have sz := HK.out.2.2.1
  have k0 : (0 : Int) ≤ (K : Int) := Int.natCast_nonneg K
  have k1 : (K : Int) ≤ (s.size : Int) := by omega
  go_wp2_with fail
  try rw [HK.out.2.2.2.1]
  refine (P1.out w3).mono ?_
  rintro e w5 ⟨gn, An, nn, cn, xsn, rfl, hs, ho, hb⟩
  have B_5 := hI (bch B_3.out HRr.out hb)
  have Xe_6 := hI (Xe_4.out.on hb)
  have Jn_7 : Hid (Sl w5 w5.heap.size An nn cn xsn) := hI hs
  clear hb B_3 Xe_4 hs
  have Vn := hI ho
  clear ho
  have hE : (E1 != 0) = false := H1.out
  go_wp2_with fail
  generalize hW : World.alloc w5 _ = W8
  have hn := below_new w5 (.cells #[.bool gn, .slice An nn cn] 24)
  rw [hW] at hn
  have hx : Ba W8 w5.heap.size gn An nn cn xsn := by rw [← hW]; exact ⟨Bx.new w5 _ _ _ _, Jn_7.out.on (below_new _ _)⟩
  have hlt : r < w5.heap.size := Xe_6.out.lt
  have B_8 := hI (bch B_5.out HRr.out hn)
  have Xe_9 := hI (Xe_6.out.on hn)
  generalize hbb : w5.heap.size = b1 at *
  clear hbb
  have Zn_10 : Hid (Ba W8 b1 gn An nn cn xsn) := hI hx
  have O10 := hI hlt
  clear hn hx hW hlt B_5 Xe_6 Jn_7
  refine (rof_z 1 W8 (by decide) (by decide)).mono ?_
  rintro e w11 ⟨go, Ao, no, co, xso, rfl, hs, ho, hb⟩
  have B_11 := hI (bch B_8.out HRr.out hb)
  have Xe_12 := hI (Xe_9.out.on hb)
  have Zn_13 := hI (Zn_10.out.on hb)
  have Jo_14 : Hid (Sl w11 w11.heap.size Ao no co xso) := hI hs
  clear hb B_8 Xe_9 Zn_10 hs
  have Vo := hI ho
  clear ho
  have hf : ((K : Int) == (s.size : Int)) = false := HF.out.1
  have hf2 : K + 1 ≤ s.size := HF.out.2
  go_wp2_with fail
  try rw [HK.out.2.2.2.2]
  generalize hW : World.alloc w11 _ = W15
  have hn := below_new w11 (.cells #[.bool go, .slice Ao no co] 24)
  rw [hW] at hn
  have hx : Ba W15 w11.heap.size go Ao no co xso := by rw [← hW]; exact ⟨Bx.new w11 _ _ _ _, Jo_14.out.on (below_new _ _)⟩
  have hlt : b1 < w11.heap.size := Zn_13.out.bx.lt
  have B_15 := hI (bch B_11.out HRr.out hn)
  have Xe_16 := hI (Xe_12.out.on hn)
  have Zn_17 := hI (Zn_13.out.on hn)
  generalize hbb : w11.heap.size = b2 at *
  clear hbb
  have Zo_18 : Hid (Ba W15 b2 go Ao no co xso) := hI hx
  have O18 := hI hlt
  clear hn hx hW hlt B_11 Xe_12 Zn_13 Jo_14
  refine (P2.out W15).mono ?_
  rintro e w19 ⟨gd, Ad, nd, cd, xsd, rfl, hs, ho, hb⟩
  have B_19 := hI (bch B_15.out HRr.out hb)
  have Xe_20 := hI (Xe_16.out.on hb)
  have Zn_21 := hI (Zn_17.out.on hb)
  have Zo_22 := hI (Zo_18.out.on hb)
  have Jd_23 : Hid (Sl w19 w19.heap.size Ad nd cd xsd) := hI hs
  clear hb B_15 Xe_16 Zn_17 Zo_18 hs
  have Vd := hI ho
  clear ho
  have hE2 : (E2 != 0) = false := H2.out
  have Ic_24 : Hid ((⟨gn, An, nn, cn, xsn, gd, Ad, nd, cd, xsd⟩ : RVal).In w19) := hI ⟨Zn_21.out.sl, Jd_23.out⟩
  obtain ⟨kn0, kn1⟩ := (Zn_21.out.on (below_new w19 (.cells #[.bool gd, .slice Ad nd cd] 24))).cs
  have ln := Zn_21.out.bx.lt
  go_wp2_with fail
  generalize hW : World.alloc w19 _ = W25
  have hn := below_new w19 (.cells #[.bool gd, .slice Ad nd cd] 24)
  rw [hW] at hn
  have hz : W25.heap.size = w19.heap.size + 1 := by rw [← hW]; simp
  have hx : Ba W25 w19.heap.size gd Ad nd cd xsd := by rw [← hW]; exact ⟨Bx.new w19 _ _ _ _, Jd_23.out.on (below_new _ _)⟩
  have hlt : b2 < w19.heap.size := Zo_22.out.bx.lt
  have B_25 := hI (bch B_19.out HRr.out hn)
  have Xe_26 := hI (Xe_20.out.on hn)
  have Zn_27 := hI (Zn_21.out.on hn)
  have Zo_28 := hI (Zo_22.out.on hn)
  have Ic_29 := hI (Ic_24.out.on hn)
  generalize hbb : w19.heap.size = b3 at *
  clear hbb
  have Zd_30 : Hid (Ba W25 b3 gd Ad nd cd xsd) := hI hx
  have HT30 := hz
  have O30 := hI hlt
  clear hn hx hz hW hlt B_19 Xe_20 Zn_21 Zo_22 Ic_24 Jd_23
  generalize hW : World.alloc W25 _ = W31
  have hn := below_new W25 (.cells #[.bool gn, .slice An nn cn, .bool gd, .slice Ad nd cd] 27)
  rw [hW] at hn
  have hx : Rb W31 W25.heap.size (⟨gn, An, nn, cn, xsn, gd, Ad, nd, cd, xsd⟩ : RVal) := by rw [← hW]; exact Rb.new (q := (⟨gn, An, nn, cn, xsn, gd, Ad, nd, cd, xsd⟩ : RVal)) Ic_29.out
  have hlt : b3 < W25.heap.size := Zd_30.out.bx.lt
  have B_31 := hI (bch B_25.out HRr.out hn)
  have Xe_32 := hI (Xe_26.out.on hn)
  have Zn_33 := hI (Zn_27.out.on hn)
  have Zo_34 := hI (Zo_28.out.on hn)
  have Zd_35 := hI (Zd_30.out.on hn)
  rw [HT30] at hx hlt
  have Xc_36 : Hid (Rb W31 (b3 + 1) (⟨gn, An, nn, cn, xsn, gd, Ad, nd, cd, xsd⟩ : RVal)) := hI hx
  clear hn hx hW hlt B_25 Xe_26 Zn_27 Zo_28 Zd_30 Ic_29
  clear HT30
  have C := rvalid2 Xc_36.out.sl
  rw [show (rv (⟨gn, An, nn, cn, xsn, gd, Ad, nd, cd, xsd⟩ : RVal).o (⟨gn, An, nn, cn, xsn, gd, Ad, nd, cd, xsd⟩ : RVal).od).isSome = false from by show (rv (ov gn xsn) (ov gd xsd)).isSome = _; rw [Vn.out, Vd.out]; exact HV.out.1] at C
  refine C.mono ?_
  clear C
  clear kn0 kn1 ln
  rintro e w37 ⟨rfl, hb⟩
  have B_37 := hI (bch B_31.out HRr.out hb)
  have Xe_38 := hI (Xe_32.out.on hb)
  have Zn_39 := hI (Zn_33.out.on hb)
  have Zo_40 := hI (Zo_34.out.on hb)
  have Zd_41 := hI (Zd_35.out.on hb)
  have Xc_42 := hI (Xc_36.out.on hb)
  clear hb B_31 Xe_32 Zn_33 Zo_34 Zd_35 Xc_36
  clear Zn_39 Zo_40 Zd_41 Xc_42
  obtain ⟨ke0, ke1, ke2, ke3⟩ := Xe_38.out.cs
  obtain ⟨fe0, fe1, fe2, fe3⟩ := Xe_38.out.fs
  simp only [RVal.nil] at ke0 ke1 ke2 ke3
  have le := Xe_38.out.lt
  go_wp2
  clear ke0 ke1 ke2 ke3 fe0 fe1 fe2 fe3 le
  generalize hW : World.setCell (World.setCell (World.setCell (World.setCell w37 _ _) _ _) _ _) _ _ = W43
  have B_43 : Hid (Below r w W43) := by rw [← hW]; exact hI (below_put4 B_37.out (by omega) _ _ _ _)
  have Xe_44 : Hid (Rb W43 r RVal.nil) := by rw [← hW]; exact hI (Rb.put (q' := RVal.nil) Xe_38.out (RVal.nil_in w37))
  clear hW B_37 Xe_38
  obtain ⟨j0, j1, j2, j3⟩ := Xe_44.out.cs
  try dsimp only at j0 j1 j2 j3
  simp only [RVal.nil] at j0 j1 j2 j3
  refine bodyPost_ret (v := .tuple #[.agg #[.bool false, .slice none 0 0, .bool false, .slice none 0 0], .int .i64 3]) (by simp [results, Tryz.results45, go_sem, j0, j1, j2, j3]) rfl ?_
  exact RetR.of Xe_44.out rfl rfl (by rw [HRr.out]; exact B_43.out)
set_option linter.unusedSimpArgs false in
set_option maxRecDepth 20000 in
set_option maxHeartbeats 2000000 in
theorem rparseq_b2 (s sa sb : ByteArray) (w : World) (K : Nat) (z1 z2 E1 E2 : Int) (hk : (∀ w : World, Calls Tryz.prog 88 #[.string s] w fun e w' => e = .returned (.int .i64 (K : Int)) ∧ Below w.heap.size w w') ∧ K ≤ s.size ∧ s.size ≤ 140737488351232 ∧ s.extract 0 K = sa ∧ s.extract (K + 1) s.size = sb) (p1 : ∀ w : World, Calls Tryz.prog 89 #[.string sa] w (RetZE z1 E1 w)) (h1 : (E1 != 0) = false) (hf : ((K : Int) == (s.size : Int)) = false ∧ K + 1 ≤ s.size) (p2 : ∀ w : World, Calls Tryz.prog 89 #[.string sb] w (RetZE z2 E2 w)) (h2 : (E2 != 0) = false) (hv : (rv (some z1) (some z2)).isSome = true ∧ decide (z2 = 1) = true) :
    Calls Tryz.prog 45 #[.string s] w (RetR 0 0 3 w) := by
  have HK := hI hk
  have P1 := hI p1
  have H1 := hI h1
  have HF := hI hf
  have P2 := hI p2
  have H2 := hI h2
  have HV := hI hv
  clear hk p1 h1 hf p2 h2 hv
  have B_0 : Hid (Below w.heap.size w w) := hI (Below.refl _ _)
  go_enter Tryz.func45, Tryz.ntmps45
  go_wp2_with fail
  generalize hW : World.alloc w _ = W1
  have hn := below_new w (.cells #[.bool false, .slice none 0 0, .bool false, .slice none 0 0] 27)
  rw [hW] at hn
  have hx : Rb W1 w.heap.size RVal.nil := by rw [← hW]; exact Rb.new (q := RVal.nil) (RVal.nil_in w)
  have B_1 := hI (below_chain B_0.out B_0.out.size hn)
  generalize hr : w.heap.size = r at *
  have HRr := hI hr
  clear hr
  have Xe_2 : Hid (Rb W1 r RVal.nil) := hI hx
  clear hn hx hW B_0
  refine (HK.out.1 W1).mono ?_
  rintro e w3 ⟨rfl, hb⟩
  have B_3 := hI (bch B_1.out HRr.out hb)
  have Xe_4 := hI (Xe_2.out.on hb)
  clear hb B_1 Xe_2
  have kz := HK.out.2.1
  have sz := HK.out.2.2.1
  have k0 : (0 : Int) ≤ (K : Int) := Int.natCast_nonneg K
  have k1 : (K : Int) ≤ (s.size : Int) := by omega
  go_wp2_with fail
  try rw [HK.out.2.2.2.1]
  refine (P1.out w3).mono ?_
  rintro e w5 ⟨gn, An, nn, cn, xsn, rfl, hs, ho, hb⟩
  have B_5 := hI (bch B_3.out HRr.out hb)
  have Xe_6 := hI (Xe_4.out.on hb)
  have Jn_7 : Hid (Sl w5 w5.heap.size An nn cn xsn) := hI hs
  clear hb B_3 Xe_4 hs
  have Vn := hI ho
  clear ho
  have hE : (E1 != 0) = false := H1.out
  go_wp2_with fail
  generalize hW : World.alloc w5 _ = W8
  have hn := below_new w5 (.cells #[.bool gn, .slice An nn cn] 24)
  rw [hW] at hn
  have hx : Ba W8 w5.heap.size gn An nn cn xsn := by rw [← hW]; exact ⟨Bx.new w5 _ _ _ _, Jn_7.out.on (below_new _ _)⟩
  have hlt : r < w5.heap.size := Xe_6.out.lt
  have B_8 := hI (bch B_5.out HRr.out hn)
  have Xe_9 := hI (Xe_6.out.on hn)
  generalize hbb : w5.heap.size = b1 at *
  clear hbb
  have Zn_10 : Hid (Ba W8 b1 gn An nn cn xsn) := hI hx
  have O10 := hI hlt
  clear hn hx hW hlt B_5 Xe_6 Jn_7
  refine (rof_z 1 W8 (by decide) (by decide)).mono ?_
  rintro e w11 ⟨go, Ao, no, co, xso, rfl, hs, ho, hb⟩
  have B_11 := hI (bch B_8.out HRr.out hb)
  have Xe_12 := hI (Xe_9.out.on hb)
  have Zn_13 := hI (Zn_10.out.on hb)
  have Jo_14 : Hid (Sl w11 w11.heap.size Ao no co xso) := hI hs
  clear hb B_8 Xe_9 Zn_10 hs
  have Vo := hI ho
  clear ho
  have hf : ((K : Int) == (s.size : Int)) = false := HF.out.1
  have hf2 : K + 1 ≤ s.size := HF.out.2
  go_wp2_with fail
  try rw [HK.out.2.2.2.2]
  generalize hW : World.alloc w11 _ = W15
  have hn := below_new w11 (.cells #[.bool go, .slice Ao no co] 24)
  rw [hW] at hn
  have hx : Ba W15 w11.heap.size go Ao no co xso := by rw [← hW]; exact ⟨Bx.new w11 _ _ _ _, Jo_14.out.on (below_new _ _)⟩
  have hlt : b1 < w11.heap.size := Zn_13.out.bx.lt
  have B_15 := hI (bch B_11.out HRr.out hn)
  have Xe_16 := hI (Xe_12.out.on hn)
  have Zn_17 := hI (Zn_13.out.on hn)
  generalize hbb : w11.heap.size = b2 at *
  clear hbb
  have Zo_18 : Hid (Ba W15 b2 go Ao no co xso) := hI hx
  have O18 := hI hlt
  clear hn hx hW hlt B_11 Xe_12 Zn_13 Jo_14
  refine (P2.out W15).mono ?_
  rintro e w19 ⟨gd, Ad, nd, cd, xsd, rfl, hs, ho, hb⟩
  have B_19 := hI (bch B_15.out HRr.out hb)
  have Xe_20 := hI (Xe_16.out.on hb)
  have Zn_21 := hI (Zn_17.out.on hb)
  have Zo_22 := hI (Zo_18.out.on hb)
  have Jd_23 : Hid (Sl w19 w19.heap.size Ad nd cd xsd) := hI hs
  clear hb B_15 Xe_16 Zn_17 Zo_18 hs
  have Vd := hI ho
  clear ho
  have hE2 : (E2 != 0) = false := H2.out
  have Ic_24 : Hid ((⟨gn, An, nn, cn, xsn, gd, Ad, nd, cd, xsd⟩ : RVal).In w19) := hI ⟨Zn_21.out.sl, Jd_23.out⟩
  obtain ⟨kn0, kn1⟩ := (Zn_21.out.on (below_new w19 (.cells #[.bool gd, .slice Ad nd cd] 24))).cs
  have ln := Zn_21.out.bx.lt
  go_wp2_with fail
  generalize hW : World.alloc w19 _ = W25
  have hn := below_new w19 (.cells #[.bool gd, .slice Ad nd cd] 24)
  rw [hW] at hn
  have hz : W25.heap.size = w19.heap.size + 1 := by rw [← hW]; simp
  have hx : Ba W25 w19.heap.size gd Ad nd cd xsd := by rw [← hW]; exact ⟨Bx.new w19 _ _ _ _, Jd_23.out.on (below_new _ _)⟩
  have hlt : b2 < w19.heap.size := Zo_22.out.bx.lt
  have B_25 := hI (bch B_19.out HRr.out hn)
  have Xe_26 := hI (Xe_20.out.on hn)
  have Zn_27 := hI (Zn_21.out.on hn)
  have Zo_28 := hI (Zo_22.out.on hn)
  have Ic_29 := hI (Ic_24.out.on hn)
  generalize hbb : w19.heap.size = b3 at *
  clear hbb
  have Zd_30 : Hid (Ba W25 b3 gd Ad nd cd xsd) := hI hx
  have HT30 := hz
  have O30 := hI hlt
  clear hn hx hz hW hlt B_19 Xe_20 Zn_21 Zo_22 Ic_24 Jd_23
  generalize hW : World.alloc W25 _ = W31
  have hn := below_new W25 (.cells #[.bool gn, .slice An nn cn, .bool gd, .slice Ad nd cd] 27)
  rw [hW] at hn
  have hx : Rb W31 W25.heap.size (⟨gn, An, nn, cn, xsn, gd, Ad, nd, cd, xsd⟩ : RVal) := by rw [← hW]; exact Rb.new (q := (⟨gn, An, nn, cn, xsn, gd, Ad, nd, cd, xsd⟩ : RVal)) Ic_29.out
  have hlt : b3 < W25.heap.size := Zd_30.out.bx.lt
  have B_31 := hI (bch B_25.out HRr.out hn)
  have Xe_32 := hI (Xe_26.out.on hn)
  have Zn_33 := hI (Zn_27.out.on hn)
  have Zo_34 := hI (Zo_28.out.on hn)
  have Zd_35 := hI (Zd_30.out.on hn)
  rw [HT30] at hx hlt
  have Xc_36 : Hid (Rb W31 (b3 + 1) (⟨gn, An, nn, cn, xsn, gd, Ad, nd, cd, xsd⟩ : RVal)) := hI hx
  clear hn hx hW hlt B_25 Xe_26 Zn_27 Zo_28 Zd_30 Ic_29
  clear HT30
  have C := rvalid2 Xc_36.out.sl
  rw [show (rv (⟨gn, An, nn, cn, xsn, gd, Ad, nd, cd, xsd⟩ : RVal).o (⟨gn, An, nn, cn, xsn, gd, Ad, nd, cd, xsd⟩ : RVal).od).isSome = true from by show (rv (ov gn xsn) (ov gd xsd)).isSome = _; rw [Vn.out, Vd.out]; exact HV.out.1] at C
  refine C.mono ?_
  clear C
  clear kn0 kn1 ln
  rintro e w37 ⟨rfl, hb⟩
  have B_37 := hI (bch B_31.out HRr.out hb)
  have Xe_38 := hI (Xe_32.out.on hb)
  have Zn_39 := hI (Zn_33.out.on hb)
  have Zo_40 := hI (Zo_34.out.on hb)
  have Zd_41 := hI (Zd_35.out.on hb)
  have Xc_42 := hI (Xc_36.out.on hb)
  clear hb B_31 Xe_32 Zn_33 Zo_34 Zd_35 Xc_36
  obtain ⟨kd0, kd1⟩ := Zd_41.out.cs
  have ld := Zd_41.out.bx.lt
  go_wp2_with fail
  refine (risone_z Zd_41.out.sl Vd.out true HV.out.2).mono ?_
  clear kd0 kd1 ld
  rintro e w43 ⟨rfl, hb⟩
  have B_43 := hI (bch B_37.out HRr.out hb)
  have Xe_44 := hI (Xe_38.out.on hb)
  have Zn_45 := hI (Zn_39.out.on hb)
  have Zo_46 := hI (Zo_40.out.on hb)
  have Zd_47 := hI (Zd_41.out.on hb)
  have Xc_48 := hI (Xc_42.out.on hb)
  clear hb B_37 Xe_38 Zn_39 Zo_40 Zd_41 Xc_42
  clear Zn_45 Zo_46 Zd_47 Xc_48
  obtain ⟨ke0, ke1, ke2, ke3⟩ := Xe_44.out.cs
  obtain ⟨fe0, fe1, fe2, fe3⟩ := Xe_44.out.fs
  simp only [RVal.nil] at ke0 ke1 ke2 ke3
  have le := Xe_44.out.lt
  go_wp2
  clear ke0 ke1 ke2 ke3 fe0 fe1 fe2 fe3 le
  generalize hW : World.setCell (World.setCell (World.setCell (World.setCell w43 _ _) _ _) _ _) _ _ = W49
  have B_49 : Hid (Below r w W49) := by rw [← hW]; exact hI (below_put4 B_43.out (by omega) _ _ _ _)
  have Xe_50 : Hid (Rb W49 r RVal.nil) := by rw [← hW]; exact hI (Rb.put (q' := RVal.nil) Xe_44.out (RVal.nil_in w43))
  clear hW B_43 Xe_44
  obtain ⟨j0, j1, j2, j3⟩ := Xe_50.out.cs
  try dsimp only at j0 j1 j2 j3
  simp only [RVal.nil] at j0 j1 j2 j3
  refine bodyPost_ret (v := .tuple #[.agg #[.bool false, .slice none 0 0, .bool false, .slice none 0 0], .int .i64 3]) (by simp [results, Tryz.results45, go_sem, j0, j1, j2, j3]) rfl ?_
  exact RetR.of Xe_50.out rfl rfl (by rw [HRr.out]; exact B_49.out)
set_option linter.unusedSimpArgs false in
set_option maxRecDepth 20000 in
set_option maxHeartbeats 2000000 in
theorem rparseq_ok (s sa sb : ByteArray) (w : World) (K : Nat) (z1 z2 E1 E2 : Int) (hk : (∀ w : World, Calls Tryz.prog 88 #[.string s] w fun e w' => e = .returned (.int .i64 (K : Int)) ∧ Below w.heap.size w w') ∧ K ≤ s.size ∧ s.size ≤ 140737488351232 ∧ s.extract 0 K = sa ∧ s.extract (K + 1) s.size = sb) (p1 : ∀ w : World, Calls Tryz.prog 89 #[.string sa] w (RetZE z1 E1 w)) (h1 : (E1 != 0) = false) (hf : ((K : Int) == (s.size : Int)) = false ∧ K + 1 ≤ s.size) (p2 : ∀ w : World, Calls Tryz.prog 89 #[.string sb] w (RetZE z2 E2 w)) (h2 : (E2 != 0) = false) (hv : (rv (some z1) (some z2)).isSome = true ∧ decide (z2 = 1) = false) :
    Calls Tryz.prog 45 #[.string s] w (RetR z1 z2 0 w) := by
  have HK := hI hk
  have P1 := hI p1
  have H1 := hI h1
  have HF := hI hf
  have P2 := hI p2
  have H2 := hI h2
  have HV := hI hv
  clear hk p1 h1 hf p2 h2 hv
  have B_0 : Hid (Below w.heap.size w w) := hI (Below.refl _ _)
  go_enter Tryz.func45, Tryz.ntmps45
  go_wp2_with fail
  generalize hW : World.alloc w _ = W1
  have hn := below_new w (.cells #[.bool false, .slice none 0 0, .bool false, .slice none 0 0] 27)
  rw [hW] at hn
  have hx : Rb W1 w.heap.size RVal.nil := by rw [← hW]; exact Rb.new (q := RVal.nil) (RVal.nil_in w)
  have B_1 := hI (below_chain B_0.out B_0.out.size hn)
  generalize hr : w.heap.size = r at *
  have HRr := hI hr
  clear hr
  have Xe_2 : Hid (Rb W1 r RVal.nil) := hI hx
  clear hn hx hW B_0
  refine (HK.out.1 W1).mono ?_
  rintro e w3 ⟨rfl, hb⟩
  have B_3 := hI (bch B_1.out HRr.out hb)
  have Xe_4 := hI (Xe_2.out.on hb)
  clear hb B_1 Xe_2
  have kz := HK.out.2.1
  have sz := HK.out.2.2.1
  have k0 : (0 : Int) ≤ (K : Int) := Int.natCast_nonneg K
  have k1 : (K : Int) ≤ (s.size : Int) := by omega
  go_wp2_with fail
  try rw [HK.out.2.2.2.1]
  refine (P1.out w3).mono ?_
  rintro e w5 ⟨gn, An, nn, cn, xsn, rfl, hs, ho, hb⟩
  have B_5 := hI (bch B_3.out HRr.out hb)
  have Xe_6 := hI (Xe_4.out.on hb)
  have Jn_7 : Hid (Sl w5 w5.heap.size An nn cn xsn) := hI hs
  clear hb B_3 Xe_4 hs
  have Vn := hI ho
  clear ho
  have hE : (E1 != 0) = false := H1.out
  go_wp2_with fail
  generalize hW : World.alloc w5 _ = W8
  have hn := below_new w5 (.cells #[.bool gn, .slice An nn cn] 24)
  rw [hW] at hn
  have hx : Ba W8 w5.heap.size gn An nn cn xsn := by rw [← hW]; exact ⟨Bx.new w5 _ _ _ _, Jn_7.out.on (below_new _ _)⟩
  have hlt : r < w5.heap.size := Xe_6.out.lt
  have B_8 := hI (bch B_5.out HRr.out hn)
  have Xe_9 := hI (Xe_6.out.on hn)
  generalize hbb : w5.heap.size = b1 at *
  clear hbb
  have Zn_10 : Hid (Ba W8 b1 gn An nn cn xsn) := hI hx
  have O10 := hI hlt
  clear hn hx hW hlt B_5 Xe_6 Jn_7
  refine (rof_z 1 W8 (by decide) (by decide)).mono ?_
  rintro e w11 ⟨go, Ao, no, co, xso, rfl, hs, ho, hb⟩
  have B_11 := hI (bch B_8.out HRr.out hb)
  have Xe_12 := hI (Xe_9.out.on hb)
  have Zn_13 := hI (Zn_10.out.on hb)
  have Jo_14 : Hid (Sl w11 w11.heap.size Ao no co xso) := hI hs
  clear hb B_8 Xe_9 Zn_10 hs
  have Vo := hI ho
  clear ho
  have hf : ((K : Int) == (s.size : Int)) = false := HF.out.1
  have hf2 : K + 1 ≤ s.size := HF.out.2
  go_wp2_with fail
  try rw [HK.out.2.2.2.2]
  generalize hW : World.alloc w11 _ = W15
  have hn := below_new w11 (.cells #[.bool go, .slice Ao no co] 24)
  rw [hW] at hn
  have hx : Ba W15 w11.heap.size go Ao no co xso := by rw [← hW]; exact ⟨Bx.new w11 _ _ _ _, Jo_14.out.on (below_new _ _)⟩
  have hlt : b1 < w11.heap.size := Zn_13.out.bx.lt
  have B_15 := hI (bch B_11.out HRr.out hn)
  have Xe_16 := hI (Xe_12.out.on hn)
  have Zn_17 := hI (Zn_13.out.on hn)
  generalize hbb : w11.heap.size = b2 at *
  clear hbb
  have Zo_18 : Hid (Ba W15 b2 go Ao no co xso) := hI hx
  have O18 := hI hlt
  clear hn hx hW hlt B_11 Xe_12 Zn_13 Jo_14
  refine (P2.out W15).mono ?_
  rintro e w19 ⟨gd, Ad, nd, cd, xsd, rfl, hs, ho, hb⟩
  have B_19 := hI (bch B_15.out HRr.out hb)
  have Xe_20 := hI (Xe_16.out.on hb)
  have Zn_21 := hI (Zn_17.out.on hb)
  have Zo_22 := hI (Zo_18.out.on hb)
  have Jd_23 : Hid (Sl w19 w19.heap.size Ad nd cd xsd) := hI hs
  clear hb B_15 Xe_16 Zn_17 Zo_18 hs
  have Vd := hI ho
  clear ho
  have hE2 : (E2 != 0) = false := H2.out
  have Ic_24 : Hid ((⟨gn, An, nn, cn, xsn, gd, Ad, nd, cd, xsd⟩ : RVal).In w19) := hI ⟨Zn_21.out.sl, Jd_23.out⟩
  obtain ⟨kn0, kn1⟩ := (Zn_21.out.on (below_new w19 (.cells #[.bool gd, .slice Ad nd cd] 24))).cs
  have ln := Zn_21.out.bx.lt
  go_wp2_with fail
  generalize hW : World.alloc w19 _ = W25
  have hn := below_new w19 (.cells #[.bool gd, .slice Ad nd cd] 24)
  rw [hW] at hn
  have hz : W25.heap.size = w19.heap.size + 1 := by rw [← hW]; simp
  have hx : Ba W25 w19.heap.size gd Ad nd cd xsd := by rw [← hW]; exact ⟨Bx.new w19 _ _ _ _, Jd_23.out.on (below_new _ _)⟩
  have hlt : b2 < w19.heap.size := Zo_22.out.bx.lt
  have B_25 := hI (bch B_19.out HRr.out hn)
  have Xe_26 := hI (Xe_20.out.on hn)
  have Zn_27 := hI (Zn_21.out.on hn)
  have Zo_28 := hI (Zo_22.out.on hn)
  have Ic_29 := hI (Ic_24.out.on hn)
  generalize hbb : w19.heap.size = b3 at *
  clear hbb
  have Zd_30 : Hid (Ba W25 b3 gd Ad nd cd xsd) := hI hx
  have HT30 := hz
  have O30 := hI hlt
  clear hn hx hz hW hlt B_19 Xe_20 Zn_21 Zo_22 Ic_24 Jd_23
  generalize hW : World.alloc W25 _ = W31
  have hn := below_new W25 (.cells #[.bool gn, .slice An nn cn, .bool gd, .slice Ad nd cd] 27)
  rw [hW] at hn
  have hx : Rb W31 W25.heap.size (⟨gn, An, nn, cn, xsn, gd, Ad, nd, cd, xsd⟩ : RVal) := by rw [← hW]; exact Rb.new (q := (⟨gn, An, nn, cn, xsn, gd, Ad, nd, cd, xsd⟩ : RVal)) Ic_29.out
  have hlt : b3 < W25.heap.size := Zd_30.out.bx.lt
  have B_31 := hI (bch B_25.out HRr.out hn)
  have Xe_32 := hI (Xe_26.out.on hn)
  have Zn_33 := hI (Zn_27.out.on hn)
  have Zo_34 := hI (Zo_28.out.on hn)
  have Zd_35 := hI (Zd_30.out.on hn)
  rw [HT30] at hx hlt
  have Xc_36 : Hid (Rb W31 (b3 + 1) (⟨gn, An, nn, cn, xsn, gd, Ad, nd, cd, xsd⟩ : RVal)) := hI hx
  clear hn hx hW hlt B_25 Xe_26 Zn_27 Zo_28 Zd_30 Ic_29
  clear HT30
  have C := rvalid2 Xc_36.out.sl
  rw [show (rv (⟨gn, An, nn, cn, xsn, gd, Ad, nd, cd, xsd⟩ : RVal).o (⟨gn, An, nn, cn, xsn, gd, Ad, nd, cd, xsd⟩ : RVal).od).isSome = true from by show (rv (ov gn xsn) (ov gd xsd)).isSome = _; rw [Vn.out, Vd.out]; exact HV.out.1] at C
  refine C.mono ?_
  clear C
  clear kn0 kn1 ln
  rintro e w37 ⟨rfl, hb⟩
  have B_37 := hI (bch B_31.out HRr.out hb)
  have Xe_38 := hI (Xe_32.out.on hb)
  have Zn_39 := hI (Zn_33.out.on hb)
  have Zo_40 := hI (Zo_34.out.on hb)
  have Zd_41 := hI (Zd_35.out.on hb)
  have Xc_42 := hI (Xc_36.out.on hb)
  clear hb B_31 Xe_32 Zn_33 Zo_34 Zd_35 Xc_36
  obtain ⟨kd0, kd1⟩ := Zd_41.out.cs
  have ld := Zd_41.out.bx.lt
  go_wp2_with fail
  refine (risone_z Zd_41.out.sl Vd.out false HV.out.2).mono ?_
  clear kd0 kd1 ld
  rintro e w43 ⟨rfl, hb⟩
  have B_43 := hI (bch B_37.out HRr.out hb)
  have Xe_44 := hI (Xe_38.out.on hb)
  have Zn_45 := hI (Zn_39.out.on hb)
  have Zo_46 := hI (Zo_40.out.on hb)
  have Zd_47 := hI (Zd_41.out.on hb)
  have Xc_48 := hI (Xc_42.out.on hb)
  clear hb B_37 Xe_38 Zn_39 Zo_40 Zd_41 Xc_42
  obtain ⟨kc0, kc1, kc2, kc3⟩ := Xc_48.out.cs
  dsimp only at kc0 kc1 kc2 kc3
  have lc := Xc_48.out.lt
  obtain ⟨ke0, ke1, ke2, ke3⟩ := Xe_44.out.cs
  obtain ⟨fe0, fe1, fe2, fe3⟩ := Xe_44.out.fs
  simp only [RVal.nil] at ke0 ke1 ke2 ke3
  have le := Xe_44.out.lt
  have nce : (b3 + 1) ≠ r := by have := O10.out; have := O18.out; have := O30.out; omega
  have nec := nce.symm
  go_wp2
  clear kc0 kc1 kc2 kc3 lc ke0 ke1 ke2 ke3 fe0 fe1 fe2 fe3 le nce nec
  have Ik_49 : Hid ((⟨gn, An, nn, cn, xsn, gd, Ad, nd, cd, xsd⟩ : RVal).In w43) := hI Xc_48.out.sl
  clear Zn_45 Zo_46 Zd_47 Xc_48
  generalize hW : World.setCell (World.setCell (World.setCell (World.setCell w43 _ _) _ _) _ _) _ _ = W50
  have B_50 : Hid (Below r w W50) := by rw [← hW]; exact hI (below_put4 B_43.out (by omega) _ _ _ _)
  have Xe_51 : Hid (Rb W50 r (⟨gn, An, nn, cn, xsn, gd, Ad, nd, cd, xsd⟩ : RVal)) := by rw [← hW]; exact hI (Rb.put (q' := (⟨gn, An, nn, cn, xsn, gd, Ad, nd, cd, xsd⟩ : RVal)) Xe_44.out Ik_49.out)
  clear hW B_43 Xe_44 Ik_49
  obtain ⟨j0, j1, j2, j3⟩ := Xe_51.out.cs
  try dsimp only at j0 j1 j2 j3
  refine bodyPost_ret (v := .tuple #[.agg #[.bool (gn), .slice An nn cn, .bool (gd), .slice Ad nd cd], .int .i64 0]) (by simp [results, Tryz.results45, go_sem, j0, j1, j2, j3]) rfl ?_
  exact RetR.of Xe_51.out Vn.out Vd.out (by rw [HRr.out]; exact B_50.out)
end Go.Proofs.YtlibjampolcbhaaGreat
