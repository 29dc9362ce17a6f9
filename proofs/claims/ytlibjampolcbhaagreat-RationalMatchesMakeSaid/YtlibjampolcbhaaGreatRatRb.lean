/-
  Stage 2: the reference's Make, Of and the test of two numbers.
-/
import Derived.Test.YtlibjampolcbhaaGreatRatRa
namespace Go.Proofs.YtlibjampolcbhaaGreat
open Go.RowKit

set_option linter.unusedSimpArgs false in
set_option maxRecDepth 20000 in
set_option maxHeartbeats 2000000 in
theorem rmake_b1 (ga : Bool) (Aa : Option Addr) (na ca : Nat) (xsa : List Nat) (gb : Bool) (Ab : Option Addr) (nb cb : Nat) (xsb : List Nat) (w : World) (ha : Sl w w.heap.size Aa na ca xsa) (hb : Sl w w.heap.size Ab nb cb xsb) (v : Bool) (h1 : (ov ga xsa).isSome = false) (h2 : (ov gb xsb).isSome = v) :
    Calls Tryz.prog 17 #[.agg #[.bool ga, .slice Aa na ca], .agg #[.bool gb, .slice Ab nb cb]] w (RetR 0 0 1 w) := by
  have H1 := hI h1
  have H2 := hI h2
  clear h1 h2
  have Ja_0 := hI ha
  clear ha
  have Jb_0 := hI hb
  clear hb
  have B_0 : Hid (Below w.heap.size w w) := hI (Below.refl _ _)
  go_enter Tryz.func17, Tryz.ntmps17
  go_wp2_with fail
  generalize hW : World.alloc w _ = W1
  have hn := below_new w (.cells #[.bool ga, .slice Aa na ca] 24)
  rw [hW] at hn
  have hz : W1.heap.size = w.heap.size + 1 := by rw [← hW]; simp
  have hx : Ba W1 w.heap.size ga Aa na ca xsa := by rw [← hW]; exact ⟨Bx.new w _ _ _ _, Ja_0.out.on (below_new _ _)⟩
  have Jb_1 := hI (Jb_0.out.on hn)
  have B_2 := hI (below_chain B_0.out B_0.out.size hn)
  generalize hr : w.heap.size = r at *
  have HRr := hI hr
  clear hr
  have Za_3 : Hid (Ba W1 r ga Aa na ca xsa) := hI hx
  have HT3 := hz
  clear hn hx hz hW Jb_0 B_0 Ja_0
  generalize hW : World.alloc W1 _ = W4
  have hn := below_new W1 (.cells #[.bool gb, .slice Ab nb cb] 24)
  rw [hW] at hn
  have hz : W4.heap.size = W1.heap.size + 1 := by rw [← hW]; simp
  have hx : Ba W4 W1.heap.size gb Ab nb cb xsb := by rw [← hW]; exact ⟨Bx.new W1 _ _ _ _, Jb_1.out.on (below_new _ _)⟩
  have hlt : r < W1.heap.size := Za_3.out.bx.lt
  have B_4 := hI (bch B_2.out HRr.out hn)
  have Za_5 := hI (Za_3.out.on hn)
  rw [HT3] at hx hz hlt
  have Zb_6 : Hid (Ba W4 (r + 1) gb Ab nb cb xsb) := hI hx
  have HT6 := hz
  clear hn hx hz hW hlt B_2 Za_3 Jb_1
  generalize hW : World.alloc W4 _ = W7
  have hn := below_new W4 (.cells #[.bool false, .slice none 0 0, .bool false, .slice none 0 0] 27)
  rw [hW] at hn
  have hx : Rb W7 W4.heap.size RVal.nil := by rw [← hW]; exact Rb.new (q := RVal.nil) (RVal.nil_in W4)
  have hlt : (r + 1) < W4.heap.size := Zb_6.out.bx.lt
  have B_7 := hI (bch B_4.out HRr.out hn)
  have Za_8 := hI (Za_5.out.on hn)
  have Zb_9 := hI (Zb_6.out.on hn)
  rw [HT6] at hx hlt
  have Xe_10 : Hid (Rb W7 (r + 1 + 1) RVal.nil) := hI hx
  clear hn hx hW hlt B_4 Za_5 Zb_6
  clear HT3 HT6
  refine (rvalid_z Za_8.out.sl false H1.out).mono ?_
  rintro e w11 ⟨rfl, hb⟩
  have B_11 := hI (bch B_7.out HRr.out hb)
  have Za_12 := hI (Za_8.out.on hb)
  have Zb_13 := hI (Zb_9.out.on hb)
  have Xe_14 := hI (Xe_10.out.on hb)
  clear hb B_7 Za_8 Zb_9 Xe_10
  obtain ⟨kb0, kb1⟩ := Zb_13.out.cs
  have lb := Zb_13.out.bx.lt
  go_wp2_with fail
  refine (rvalid_z Zb_13.out.sl v H2.out).mono ?_
  clear kb0 kb1 lb
  rintro e w15 ⟨rfl, hb⟩
  have B_15 := hI (bch B_11.out HRr.out hb)
  have Za_16 := hI (Za_12.out.on hb)
  have Zb_17 := hI (Zb_13.out.on hb)
  have Xe_18 := hI (Xe_14.out.on hb)
  clear hb B_11 Za_12 Zb_13 Xe_14
  clear Za_16 Zb_17
  obtain ⟨ke0, ke1, ke2, ke3⟩ := Xe_18.out.cs
  obtain ⟨fe0, fe1, fe2, fe3⟩ := Xe_18.out.fs
  simp only [RVal.nil] at ke0 ke1 ke2 ke3
  have le := Xe_18.out.lt
  go_wp2
  clear ke0 ke1 ke2 ke3 fe0 fe1 fe2 fe3 le
  generalize hW : World.setCell (World.setCell (World.setCell (World.setCell w15 _ _) _ _) _ _) _ _ = W19
  have B_19 : Hid (Below r w W19) := by rw [← hW]; exact hI (below_put4 B_15.out (by omega) _ _ _ _)
  have Xe_20 : Hid (Rb W19 (r + 1 + 1) RVal.nil) := by rw [← hW]; exact hI (Rb.put (q' := RVal.nil) Xe_18.out (RVal.nil_in w15))
  clear hW B_15 Xe_18
  obtain ⟨j0, j1, j2, j3⟩ := Xe_20.out.cs
  try dsimp only at j0 j1 j2 j3
  simp only [RVal.nil] at j0 j1 j2 j3
  refine bodyPost_ret (v := .tuple #[.agg #[.bool false, .slice none 0 0, .bool false, .slice none 0 0], .int .i64 1]) (by simp [results, Tryz.results17, go_sem, j0, j1, j2, j3]) rfl ?_
  exact RetR.of Xe_20.out rfl rfl (by rw [HRr.out]; exact B_19.out)

set_option linter.unusedSimpArgs false in
set_option maxRecDepth 20000 in
set_option maxHeartbeats 2000000 in
theorem rmake_b2 (ga : Bool) (Aa : Option Addr) (na ca : Nat) (xsa : List Nat) (gb : Bool) (Ab : Option Addr) (nb cb : Nat) (xsb : List Nat) (w : World) (ha : Sl w w.heap.size Aa na ca xsa) (hb : Sl w w.heap.size Ab nb cb xsb) (h1 : (ov ga xsa).isSome = true) (h2 : (ov gb xsb).isSome = false) :
    Calls Tryz.prog 17 #[.agg #[.bool ga, .slice Aa na ca], .agg #[.bool gb, .slice Ab nb cb]] w (RetR 0 0 1 w) := by
  have H1 := hI h1
  have H2 := hI h2
  clear h1 h2
  have Ja_0 := hI ha
  clear ha
  have Jb_0 := hI hb
  clear hb
  have B_0 : Hid (Below w.heap.size w w) := hI (Below.refl _ _)
  go_enter Tryz.func17, Tryz.ntmps17
  go_wp2_with fail
  generalize hW : World.alloc w _ = W1
  have hn := below_new w (.cells #[.bool ga, .slice Aa na ca] 24)
  rw [hW] at hn
  have hz : W1.heap.size = w.heap.size + 1 := by rw [← hW]; simp
  have hx : Ba W1 w.heap.size ga Aa na ca xsa := by rw [← hW]; exact ⟨Bx.new w _ _ _ _, Ja_0.out.on (below_new _ _)⟩
  have Jb_1 := hI (Jb_0.out.on hn)
  have B_2 := hI (below_chain B_0.out B_0.out.size hn)
  generalize hr : w.heap.size = r at *
  have HRr := hI hr
  clear hr
  have Za_3 : Hid (Ba W1 r ga Aa na ca xsa) := hI hx
  have HT3 := hz
  clear hn hx hz hW Jb_0 B_0 Ja_0
  generalize hW : World.alloc W1 _ = W4
  have hn := below_new W1 (.cells #[.bool gb, .slice Ab nb cb] 24)
  rw [hW] at hn
  have hz : W4.heap.size = W1.heap.size + 1 := by rw [← hW]; simp
  have hx : Ba W4 W1.heap.size gb Ab nb cb xsb := by rw [← hW]; exact ⟨Bx.new W1 _ _ _ _, Jb_1.out.on (below_new _ _)⟩
  have hlt : r < W1.heap.size := Za_3.out.bx.lt
  have B_4 := hI (bch B_2.out HRr.out hn)
  have Za_5 := hI (Za_3.out.on hn)
  rw [HT3] at hx hz hlt
  have Zb_6 : Hid (Ba W4 (r + 1) gb Ab nb cb xsb) := hI hx
  have HT6 := hz
  clear hn hx hz hW hlt B_2 Za_3 Jb_1
  generalize hW : World.alloc W4 _ = W7
  have hn := below_new W4 (.cells #[.bool false, .slice none 0 0, .bool false, .slice none 0 0] 27)
  rw [hW] at hn
  have hx : Rb W7 W4.heap.size RVal.nil := by rw [← hW]; exact Rb.new (q := RVal.nil) (RVal.nil_in W4)
  have hlt : (r + 1) < W4.heap.size := Zb_6.out.bx.lt
  have B_7 := hI (bch B_4.out HRr.out hn)
  have Za_8 := hI (Za_5.out.on hn)
  have Zb_9 := hI (Zb_6.out.on hn)
  rw [HT6] at hx hlt
  have Xe_10 : Hid (Rb W7 (r + 1 + 1) RVal.nil) := hI hx
  clear hn hx hW hlt B_4 Za_5 Zb_6
  clear HT3 HT6
  refine (rvalid_z Za_8.out.sl true H1.out).mono ?_
  rintro e w11 ⟨rfl, hb⟩
  have B_11 := hI (bch B_7.out HRr.out hb)
  have Za_12 := hI (Za_8.out.on hb)
  have Zb_13 := hI (Zb_9.out.on hb)
  have Xe_14 := hI (Xe_10.out.on hb)
  clear hb B_7 Za_8 Zb_9 Xe_10
  obtain ⟨kb0, kb1⟩ := Zb_13.out.cs
  have lb := Zb_13.out.bx.lt
  go_wp2_with fail
  refine (rvalid_z Zb_13.out.sl false H2.out).mono ?_
  clear kb0 kb1 lb
  rintro e w15 ⟨rfl, hb⟩
  have B_15 := hI (bch B_11.out HRr.out hb)
  have Za_16 := hI (Za_12.out.on hb)
  have Zb_17 := hI (Zb_13.out.on hb)
  have Xe_18 := hI (Xe_14.out.on hb)
  clear hb B_11 Za_12 Zb_13 Xe_14
  clear Za_16 Zb_17
  obtain ⟨ke0, ke1, ke2, ke3⟩ := Xe_18.out.cs
  obtain ⟨fe0, fe1, fe2, fe3⟩ := Xe_18.out.fs
  simp only [RVal.nil] at ke0 ke1 ke2 ke3
  have le := Xe_18.out.lt
  go_wp2
  clear ke0 ke1 ke2 ke3 fe0 fe1 fe2 fe3 le
  generalize hW : World.setCell (World.setCell (World.setCell (World.setCell w15 _ _) _ _) _ _) _ _ = W19
  have B_19 : Hid (Below r w W19) := by rw [← hW]; exact hI (below_put4 B_15.out (by omega) _ _ _ _)
  have Xe_20 : Hid (Rb W19 (r + 1 + 1) RVal.nil) := by rw [← hW]; exact hI (Rb.put (q' := RVal.nil) Xe_18.out (RVal.nil_in w15))
  clear hW B_15 Xe_18
  obtain ⟨j0, j1, j2, j3⟩ := Xe_20.out.cs
  try dsimp only at j0 j1 j2 j3
  simp only [RVal.nil] at j0 j1 j2 j3
  refine bodyPost_ret (v := .tuple #[.agg #[.bool false, .slice none 0 0, .bool false, .slice none 0 0], .int .i64 1]) (by simp [results, Tryz.results17, go_sem, j0, j1, j2, j3]) rfl ?_
  exact RetR.of Xe_20.out rfl rfl (by rw [HRr.out]; exact B_19.out)

set_option linter.unusedSimpArgs false in
set_option maxRecDepth 20000 in
set_option maxHeartbeats 2000000 in
theorem rmake_z (ga : Bool) (Aa : Option Addr) (na ca : Nat) (xsa : List Nat) (gb : Bool) (Ab : Option Addr) (nb cb : Nat) (xsb : List Nat) (w : World) (ha : Sl w w.heap.size Aa na ca xsa) (hb : Sl w w.heap.size Ab nb cb xsb) (a b : Int) (ha2 : ov ga xsa = some a) (hb2 : ov gb xsb = some b) (hn : decide (nb = 0) = true) :
    Calls Tryz.prog 17 #[.agg #[.bool ga, .slice Aa na ca], .agg #[.bool gb, .slice Ab nb cb]] w (RetR 0 0 4 w) := by
  have Va := hI ha2
  have Vb := hI hb2
  have HN := hI hn
  clear ha2 hb2 hn
  have Ja_0 := hI ha
  clear ha
  have Jb_0 := hI hb
  clear hb
  have B_0 : Hid (Below w.heap.size w w) := hI (Below.refl _ _)
  go_enter Tryz.func17, Tryz.ntmps17
  go_wp2_with fail
  generalize hW : World.alloc w _ = W1
  have hn := below_new w (.cells #[.bool ga, .slice Aa na ca] 24)
  rw [hW] at hn
  have hz : W1.heap.size = w.heap.size + 1 := by rw [← hW]; simp
  have hx : Ba W1 w.heap.size ga Aa na ca xsa := by rw [← hW]; exact ⟨Bx.new w _ _ _ _, Ja_0.out.on (below_new _ _)⟩
  have Jb_1 := hI (Jb_0.out.on hn)
  have B_2 := hI (below_chain B_0.out B_0.out.size hn)
  generalize hr : w.heap.size = r at *
  have HRr := hI hr
  clear hr
  have Za_3 : Hid (Ba W1 r ga Aa na ca xsa) := hI hx
  have HT3 := hz
  clear hn hx hz hW Jb_0 B_0 Ja_0
  generalize hW : World.alloc W1 _ = W4
  have hn := below_new W1 (.cells #[.bool gb, .slice Ab nb cb] 24)
  rw [hW] at hn
  have hz : W4.heap.size = W1.heap.size + 1 := by rw [← hW]; simp
  have hx : Ba W4 W1.heap.size gb Ab nb cb xsb := by rw [← hW]; exact ⟨Bx.new W1 _ _ _ _, Jb_1.out.on (below_new _ _)⟩
  have hlt : r < W1.heap.size := Za_3.out.bx.lt
  have B_4 := hI (bch B_2.out HRr.out hn)
  have Za_5 := hI (Za_3.out.on hn)
  rw [HT3] at hx hz hlt
  have Zb_6 : Hid (Ba W4 (r + 1) gb Ab nb cb xsb) := hI hx
  have HT6 := hz
  clear hn hx hz hW hlt B_2 Za_3 Jb_1
  generalize hW : World.alloc W4 _ = W7
  have hn := below_new W4 (.cells #[.bool false, .slice none 0 0, .bool false, .slice none 0 0] 27)
  rw [hW] at hn
  have hx : Rb W7 W4.heap.size RVal.nil := by rw [← hW]; exact Rb.new (q := RVal.nil) (RVal.nil_in W4)
  have hlt : (r + 1) < W4.heap.size := Zb_6.out.bx.lt
  have B_7 := hI (bch B_4.out HRr.out hn)
  have Za_8 := hI (Za_5.out.on hn)
  have Zb_9 := hI (Zb_6.out.on hn)
  rw [HT6] at hx hlt
  have Xe_10 : Hid (Rb W7 (r + 1 + 1) RVal.nil) := hI hx
  clear hn hx hW hlt B_4 Za_5 Zb_6
  clear HT3 HT6
  refine (rvalid_z Za_8.out.sl true (by rw [Va.out]; rfl)).mono ?_
  rintro e w11 ⟨rfl, hb⟩
  have B_11 := hI (bch B_7.out HRr.out hb)
  have Za_12 := hI (Za_8.out.on hb)
  have Zb_13 := hI (Zb_9.out.on hb)
  have Xe_14 := hI (Xe_10.out.on hb)
  clear hb B_7 Za_8 Zb_9 Xe_10
  obtain ⟨kb0, kb1⟩ := Zb_13.out.cs
  have lb := Zb_13.out.bx.lt
  go_wp2_with fail
  refine (rvalid_z Zb_13.out.sl true (by rw [Vb.out]; rfl)).mono ?_
  clear kb0 kb1 lb
  rintro e w15 ⟨rfl, hb⟩
  have B_15 := hI (bch B_11.out HRr.out hb)
  have Za_16 := hI (Za_12.out.on hb)
  have Zb_17 := hI (Zb_13.out.on hb)
  have Xe_18 := hI (Xe_14.out.on hb)
  clear hb B_11 Za_12 Zb_13 Xe_14
  obtain ⟨kb0, kb1⟩ := Zb_17.out.cs
  have lb := Zb_17.out.bx.lt
  go_wp2_with fail
  have C := riszero_any gb Ab nb cb w15
  rw [HN.out] at C
  refine C.mono ?_
  clear C
  clear kb0 kb1 lb
  rintro e w19 ⟨rfl, hb⟩
  have B_19 := hI (bch B_15.out HRr.out hb)
  have Za_20 := hI (Za_16.out.on hb)
  have Zb_21 := hI (Zb_17.out.on hb)
  have Xe_22 := hI (Xe_18.out.on hb)
  clear hb B_15 Za_16 Zb_17 Xe_18
  obtain ⟨ke0, ke1, ke2, ke3⟩ := Xe_22.out.cs
  obtain ⟨fe0, fe1, fe2, fe3⟩ := Xe_22.out.fs
  simp only [RVal.nil] at ke0 ke1 ke2 ke3
  have le := Xe_22.out.lt
  go_wp2
  clear ke0 ke1 ke2 ke3 fe0 fe1 fe2 fe3 le
  generalize hW : World.setCell (World.setCell (World.setCell (World.setCell w19 _ _) _ _) _ _) _ _ = W23
  have B_23 : Hid (Below r w W23) := by rw [← hW]; exact hI (below_put4 B_19.out (by omega) _ _ _ _)
  have Za_24 : Hid (Ba W23 r ga Aa na ca xsa) := by rw [← hW]; exact hI (Za_20.out.pass Xe_22.out (by omega) _ _ _ _)
  have Zb_25 : Hid (Ba W23 (r + 1) gb Ab nb cb xsb) := by rw [← hW]; exact hI (Zb_21.out.pass Xe_22.out (by omega) _ _ _ _)
  have Xe_26 : Hid (Rb W23 (r + 1 + 1) RVal.nil) := by rw [← hW]; exact hI (Rb.put (q' := RVal.nil) Xe_22.out (RVal.nil_in w19))
  clear hW B_19 Za_20 Zb_21 Xe_22
  obtain ⟨j0, j1, j2, j3⟩ := Xe_26.out.cs
  try dsimp only at j0 j1 j2 j3
  simp only [RVal.nil] at j0 j1 j2 j3
  refine bodyPost_ret (v := .tuple #[.agg #[.bool false, .slice none 0 0, .bool false, .slice none 0 0], .int .i64 4]) (by simp [results, Tryz.results17, go_sem, j0, j1, j2, j3]) rfl ?_
  exact RetR.of Xe_26.out rfl rfl (by rw [HRr.out]; exact B_23.out)

set_option linter.unusedSimpArgs false in
set_option maxRecDepth 20000 in
set_option maxHeartbeats 2000000 in
theorem rmake_g (ga : Bool) (Aa : Option Addr) (na ca : Nat) (xsa : List Nat) (gb : Bool) (Ab : Option Addr) (nb cb : Nat) (xsb : List Nat) (w : World) (ha : Sl w w.heap.size Aa na ca xsa) (hb : Sl w w.heap.size Ab nb cb xsb) (a b : Int) (ha2 : ov ga xsa = some a) (hb2 : ov gb xsb = some b) (hn : decide (nb = 0) = false) (hb0 : b ≠ 0) :
    Calls Tryz.prog 17 #[.agg #[.bool ga, .slice Aa na ca], .agg #[.bool gb, .slice Ab nb cb]] w (RetR (Rat.divInt a b).num (Rat.divInt a b).den 0 w) := by
  have Va := hI ha2
  have Vb := hI hb2
  have HN := hI hn
  have HB0 := hI hb0
  clear ha2 hb2 hn hb0
  have Ja_0 := hI ha
  clear ha
  have Jb_0 := hI hb
  clear hb
  have B_0 : Hid (Below w.heap.size w w) := hI (Below.refl _ _)
  go_enter Tryz.func17, Tryz.ntmps17
  go_wp2_with fail
  generalize hW : World.alloc w _ = W1
  have hn := below_new w (.cells #[.bool ga, .slice Aa na ca] 24)
  rw [hW] at hn
  have hz : W1.heap.size = w.heap.size + 1 := by rw [← hW]; simp
  have hx : Ba W1 w.heap.size ga Aa na ca xsa := by rw [← hW]; exact ⟨Bx.new w _ _ _ _, Ja_0.out.on (below_new _ _)⟩
  have Jb_1 := hI (Jb_0.out.on hn)
  have B_2 := hI (below_chain B_0.out B_0.out.size hn)
  generalize hr : w.heap.size = r at *
  have HRr := hI hr
  clear hr
  have Za_3 : Hid (Ba W1 r ga Aa na ca xsa) := hI hx
  have HT3 := hz
  clear hn hx hz hW Jb_0 B_0 Ja_0
  generalize hW : World.alloc W1 _ = W4
  have hn := below_new W1 (.cells #[.bool gb, .slice Ab nb cb] 24)
  rw [hW] at hn
  have hz : W4.heap.size = W1.heap.size + 1 := by rw [← hW]; simp
  have hx : Ba W4 W1.heap.size gb Ab nb cb xsb := by rw [← hW]; exact ⟨Bx.new W1 _ _ _ _, Jb_1.out.on (below_new _ _)⟩
  have hlt : r < W1.heap.size := Za_3.out.bx.lt
  have B_4 := hI (bch B_2.out HRr.out hn)
  have Za_5 := hI (Za_3.out.on hn)
  rw [HT3] at hx hz hlt
  have Zb_6 : Hid (Ba W4 (r + 1) gb Ab nb cb xsb) := hI hx
  have HT6 := hz
  clear hn hx hz hW hlt B_2 Za_3 Jb_1
  generalize hW : World.alloc W4 _ = W7
  have hn := below_new W4 (.cells #[.bool false, .slice none 0 0, .bool false, .slice none 0 0] 27)
  rw [hW] at hn
  have hx : Rb W7 W4.heap.size RVal.nil := by rw [← hW]; exact Rb.new (q := RVal.nil) (RVal.nil_in W4)
  have hlt : (r + 1) < W4.heap.size := Zb_6.out.bx.lt
  have B_7 := hI (bch B_4.out HRr.out hn)
  have Za_8 := hI (Za_5.out.on hn)
  have Zb_9 := hI (Zb_6.out.on hn)
  rw [HT6] at hx hlt
  have Xe_10 : Hid (Rb W7 (r + 1 + 1) RVal.nil) := hI hx
  clear hn hx hW hlt B_4 Za_5 Zb_6
  clear HT3 HT6
  refine (rvalid_z Za_8.out.sl true (by rw [Va.out]; rfl)).mono ?_
  rintro e w11 ⟨rfl, hb⟩
  have B_11 := hI (bch B_7.out HRr.out hb)
  have Za_12 := hI (Za_8.out.on hb)
  have Zb_13 := hI (Zb_9.out.on hb)
  have Xe_14 := hI (Xe_10.out.on hb)
  clear hb B_7 Za_8 Zb_9 Xe_10
  obtain ⟨kb0, kb1⟩ := Zb_13.out.cs
  have lb := Zb_13.out.bx.lt
  go_wp2_with fail
  refine (rvalid_z Zb_13.out.sl true (by rw [Vb.out]; rfl)).mono ?_
  clear kb0 kb1 lb
  rintro e w15 ⟨rfl, hb⟩
  have B_15 := hI (bch B_11.out HRr.out hb)
  have Za_16 := hI (Za_12.out.on hb)
  have Zb_17 := hI (Zb_13.out.on hb)
  have Xe_18 := hI (Xe_14.out.on hb)
  clear hb B_11 Za_12 Zb_13 Xe_14
  obtain ⟨kb0, kb1⟩ := Zb_17.out.cs
  have lb := Zb_17.out.bx.lt
  go_wp2_with fail
  have C := riszero_any gb Ab nb cb w15
  rw [HN.out] at C
  refine C.mono ?_
  clear C
  clear kb0 kb1 lb
  rintro e w19 ⟨rfl, hb⟩
  have B_19 := hI (bch B_15.out HRr.out hb)
  have Za_20 := hI (Za_16.out.on hb)
  have Zb_21 := hI (Zb_17.out.on hb)
  have Xe_22 := hI (Xe_18.out.on hb)
  clear hb B_15 Za_16 Zb_17 Xe_18
  obtain ⟨ka0, ka1⟩ := Za_20.out.cs
  have la := Za_20.out.bx.lt
  obtain ⟨kb0, kb1⟩ := Zb_21.out.cs
  have lb := Zb_21.out.bx.lt
  go_wp2_with fail
  refine (rlow_z Za_20.out.sl Zb_21.out.sl Va.out Vb.out HB0.out).mono ?_
  clear ka0 ka1 la kb0 kb1 lb
  rintro e w23 ⟨tk, rfl, hi, hv, hb⟩
  have B_23 := hI (bch B_19.out HRr.out hb)
  have Za_24 := hI (Za_20.out.on hb)
  have Zb_25 := hI (Zb_21.out.on hb)
  have Xe_26 := hI (Xe_22.out.on hb)
  have Ik_27 : Hid (tk.In w23) := hI hi
  clear hb B_19 Za_20 Zb_21 Xe_22 hi
  have Vk := hI hv
  clear hv
  clear Za_24 Zb_25
  obtain ⟨ke0, ke1, ke2, ke3⟩ := Xe_26.out.cs
  obtain ⟨fe0, fe1, fe2, fe3⟩ := Xe_26.out.fs
  simp only [RVal.nil] at ke0 ke1 ke2 ke3
  have le := Xe_26.out.lt
  go_wp2
  clear ke0 ke1 ke2 ke3 fe0 fe1 fe2 fe3 le
  generalize hW : World.setCell (World.setCell (World.setCell (World.setCell w23 _ _) _ _) _ _) _ _ = W28
  have B_28 : Hid (Below r w W28) := by rw [← hW]; exact hI (below_put4 B_23.out (by omega) _ _ _ _)
  have Xe_29 : Hid (Rb W28 (r + 1 + 1) tk) := by rw [← hW]; exact hI (Rb.put (q' := tk) Xe_26.out Ik_27.out)
  clear hW B_23 Xe_26 Ik_27
  obtain ⟨j0, j1, j2, j3⟩ := Xe_29.out.cs
  try dsimp only at j0 j1 j2 j3
  refine bodyPost_ret (v := .tuple #[.agg #[.bool tk.g, .slice tk.A tk.n tk.c, .bool tk.gd, .slice tk.Ad tk.nd tk.cd], .int .i64 0]) (by simp [results, Tryz.results17, go_sem, j0, j1, j2, j3]) rfl ?_
  exact RetR.of Xe_29.out (rv_some Vk.out).1 (rv_some Vk.out).2 (by rw [HRr.out]; exact B_28.out)

theorem rmake_ov {g g' : Bool} {A A' : Option Addr} {n c n' c' : Nat} {xs ys : List Nat} {w : World} (h : Sl w w.heap.size A n c xs) (h' : Sl w w.heap.size A' n' c' ys) :
    Calls Tryz.prog 17 #[.agg #[.bool g, .slice A n c], .agg #[.bool g', .slice A' n' c']] w (RetR (mkN (ov g xs) (ov g' ys)) (mkD (ov g xs) (ov g' ys)) (mkE (ov g xs) (ov g' ys)) w) := by
  rcases hx : ov g xs with _ | a
  · exact rmake_b1 g A n c xs g' A' n' c' ys w h h' (ov g' ys).isSome (by rw [hx]; rfl) rfl
  · rcases hy : ov g' ys with _ | b
    · exact rmake_b2 g A n c xs g' A' n' c' ys w h h' (by rw [hx]; rfl) (by rw [hy]; rfl)
    · show Calls Tryz.prog 17 _ w (RetR (if b = 0 then 0 else (Rat.divInt a b).num) (if b = 0 then 0 else ((Rat.divInt a b).den : Int)) (if b = 0 then 4 else 0) w)
      have l := ov_len0 h' hy
      by_cases hb : b = 0
      · rw [if_pos hb, if_pos hb, if_pos hb]
        exact rmake_z g A n c xs g' A' n' c' ys w h h' a b hx hy (by rw [l, decide_eq_true hb])
      · rw [if_neg hb, if_neg hb, if_neg hb]
        exact rmake_g g A n c xs g' A' n' c' ys w h h' a b hx hy (by rw [l, decide_eq_false hb]) hb

set_option linter.unusedSimpArgs false in
set_option maxRecDepth 20000 in
set_option maxHeartbeats 2000000 in
theorem rof_run (n d : Int) (w : World) (z zd er : Int) (h1 : -9223372036854775808 ≤ n ∧ n ≤ 9223372036854775807) (h2 : -9223372036854775808 ≤ d ∧ d ≤ 9223372036854775807) (h3 : ∀ (g : Bool) (A : Option Addr) (k c : Nat) (xs : List Nat) (g' : Bool) (A' : Option Addr) (k' c' : Nat) (ys : List Nat) (w : World), Sl w w.heap.size A k c xs → Sl w w.heap.size A' k' c' ys → ov g xs = some n → ov g' ys = some d → Calls Tryz.prog 17 #[.agg #[.bool g, .slice A k c], .agg #[.bool g', .slice A' k' c']] w (RetR z zd er w)) :
    Calls Tryz.prog 19 #[.int .i64 n, .int .i64 d] w (RetR z zd er w) := by
  have H1 := hI h1
  have H2 := hI h2
  have H3 := hI h3
  clear h1 h2 h3
  have B_0 : Hid (Below w.heap.size w w) := hI (Below.refl _ _)
  go_enter Tryz.func19, Tryz.ntmps19
  go_wp2_with fail
  generalize hW : World.alloc w _ = W1
  have hn := below_new w (.cells #[.bool false, .slice none 0 0, .bool false, .slice none 0 0] 27)
  rw [hW] at hn
  have hx : Rb W1 w.heap.size RVal.nil := by rw [← hW]; exact Rb.new (q := RVal.nil) (RVal.nil_in w)
  have B_1 := hI (below_chain B_0.out B_0.out.size hn)
  generalize hr : w.heap.size = r at *
  have HRr := hI hr
  clear hr
  have Xe_2 : Hid (Rb W1 r RVal.nil) := hI hx
  clear hn hx hW B_0
  refine (rof_z n W1 H1.out.1 H1.out.2).mono ?_
  rintro e w3 ⟨gp, Ap, np, cp, xsp, rfl, hs, ho, hb⟩
  have B_3 := hI (bch B_1.out HRr.out hb)
  have Xe_4 := hI (Xe_2.out.on hb)
  have Jp_5 : Hid (Sl w3 w3.heap.size Ap np cp xsp) := hI hs
  clear hb B_1 Xe_2 hs
  have Vp := hI ho
  clear ho
  go_wp2_with fail
  refine (rof_z d w3 H2.out.1 H2.out.2).mono ?_
  rintro e w6 ⟨gq, Aq, nq, cq, xsq, rfl, hs, ho, hb⟩
  have B_6 := hI (bch B_3.out HRr.out hb)
  have Xe_7 := hI (Xe_4.out.on hb)
  have Jp_8 := hI (Jp_5.out.on hb)
  have Jq_9 : Hid (Sl w6 w6.heap.size Aq nq cq xsq) := hI hs
  clear hb B_3 Xe_4 Jp_5 hs
  have Vq := hI ho
  clear ho
  go_wp2_with fail
  refine (H3.out _ _ _ _ _ _ _ _ _ _ w6 Jp_8.out Jq_9.out Vp.out Vq.out).mono ?_
  rintro e w10 ⟨tk, rfl, hi, hv, hv2, hb⟩
  have B_10 := hI (bch B_6.out HRr.out hb)
  have Xe_11 := hI (Xe_7.out.on hb)
  have Jp_12 := hI (Jp_8.out.on hb)
  have Jq_13 := hI (Jq_9.out.on hb)
  have Ik_14 : Hid (tk.In w10) := hI hi
  clear hb B_6 Xe_7 Jp_8 Jq_9 hi
  have Vk := hI (And.intro hv hv2)
  clear hv hv2
  obtain ⟨ke0, ke1, ke2, ke3⟩ := Xe_11.out.cs
  obtain ⟨fe0, fe1, fe2, fe3⟩ := Xe_11.out.fs
  simp only [RVal.nil] at ke0 ke1 ke2 ke3
  have le := Xe_11.out.lt
  go_wp2
  clear ke0 ke1 ke2 ke3 fe0 fe1 fe2 fe3 le
  generalize hW : World.setCell (World.setCell (World.setCell (World.setCell w10 _ _) _ _) _ _) _ _ = W15
  have B_15 : Hid (Below r w W15) := by rw [← hW]; exact hI (below_put4 B_10.out (by omega) _ _ _ _)
  have Xe_16 : Hid (Rb W15 r tk) := by rw [← hW]; exact hI (Rb.put (q' := tk) Xe_11.out Ik_14.out)
  have Jp_17 : Hid (Sl W15 W15.heap.size Ap np cp xsp) := by rw [← hW]; exact hI (Jp_12.out.put4 Xe_11.out.bx _ _ _ _)
  have Jq_18 : Hid (Sl W15 W15.heap.size Aq nq cq xsq) := by rw [← hW]; exact hI (Jq_13.out.put4 Xe_11.out.bx _ _ _ _)
  clear hW B_10 Xe_11 Jp_12 Jq_13 Ik_14
  obtain ⟨j0, j1, j2, j3⟩ := Xe_16.out.cs
  try dsimp only at j0 j1 j2 j3
  refine bodyPost_ret (v := .tuple #[.agg #[.bool tk.g, .slice tk.A tk.n tk.c, .bool tk.gd, .slice tk.Ad tk.nd tk.cd], .int .i64 er]) (by simp [results, Tryz.results19, go_sem, j0, j1, j2, j3]) rfl ?_
  exact RetR.of Xe_16.out Vk.out.1 Vk.out.2 (by rw [HRr.out]; exact B_15.out)

theorem rof_q (n d : Int) (w : World) (h1 : -9223372036854775808 ≤ n) (h2 : n ≤ 9223372036854775807) (h3 : -9223372036854775808 ≤ d) (h4 : d ≤ 9223372036854775807) :
    Calls Tryz.prog 19 #[.int .i64 n, .int .i64 d] w (RetR (mkN (some n) (some d)) (mkD (some n) (some d)) (mkE (some n) (some d)) w) :=
  rof_run n d w _ _ _ ⟨h1, h2⟩ ⟨h3, h4⟩ fun g A k c xs g' A' k' c' ys w h h' hx hy => by
    have C := rmake_ov (g := g) (g' := g') h h'
    rwa [hx, hy] at C

set_option linter.unusedSimpArgs false in
set_option maxRecDepth 20000 in
set_option maxHeartbeats 2000000 in
theorem rboth_f (p q : RVal) (w : World) (ha : p.In w) (hb : q.In w) (v : Bool) (h1 : (rv p.o p.od).isSome = false) (h2 : (rv q.o q.od).isSome = v) :
    Calls Tryz.prog 69 #[.agg #[.bool p.g, .slice p.A p.n p.c, .bool p.gd, .slice p.Ad p.nd p.cd], .agg #[.bool q.g, .slice q.A q.n q.c, .bool q.gd, .slice q.Ad q.nd q.cd]] w fun e w' => e = .returned (.bool false) ∧ Below w.heap.size w w' := by
  have H1 := hI h1
  have H2 := hI h2
  clear h1 h2
  have Ia_0 := hI ha
  clear ha
  have Ib_0 := hI hb
  clear hb
  have B_0 : Hid (Below w.heap.size w w) := hI (Below.refl _ _)
  go_enter Tryz.func69, Tryz.ntmps69
  go_wp2_with fail
  generalize hW : World.alloc w _ = W1
  have hn := below_new w (.cells #[.bool p.g, .slice p.A p.n p.c, .bool p.gd, .slice p.Ad p.nd p.cd] 27)
  rw [hW] at hn
  have hz : W1.heap.size = w.heap.size + 1 := by rw [← hW]; simp
  have hx : Rb W1 w.heap.size p := by rw [← hW]; exact Rb.new (q := p) Ia_0.out
  have Ib_1 := hI (Ib_0.out.on hn)
  have B_2 := hI (below_chain B_0.out B_0.out.size hn)
  generalize hr : w.heap.size = r at *
  have HRr := hI hr
  clear hr
  have Xa_3 : Hid (Rb W1 r p) := hI hx
  have HT3 := hz
  clear hn hx hz hW Ib_0 B_0 Ia_0
  generalize hW : World.alloc W1 _ = W4
  have hn := below_new W1 (.cells #[.bool q.g, .slice q.A q.n q.c, .bool q.gd, .slice q.Ad q.nd q.cd] 27)
  rw [hW] at hn
  have hx : Rb W4 W1.heap.size q := by rw [← hW]; exact Rb.new (q := q) Ib_1.out
  have hlt : r < W1.heap.size := Xa_3.out.lt
  have B_4 := hI (bch B_2.out HRr.out hn)
  have Xa_5 := hI (Xa_3.out.on hn)
  rw [HT3] at hx hlt
  have Xb_6 : Hid (Rb W4 (r + 1) q) := hI hx
  clear hn hx hW hlt B_2 Xa_3 Ib_1
  clear HT3
  have C := rvalid2 Xa_5.out.sl
  rw [H1.out] at C
  refine C.mono ?_
  clear C
  rintro e w7 ⟨rfl, hb⟩
  have B_7 := hI (bch B_4.out HRr.out hb)
  have Xa_8 := hI (Xa_5.out.on hb)
  have Xb_9 := hI (Xb_6.out.on hb)
  clear hb B_4 Xa_5 Xb_6
  obtain ⟨kb0, kb1, kb2, kb3⟩ := Xb_9.out.cs
  have lb := Xb_9.out.lt
  go_wp2_with fail
  have C := rvalid2 Xb_9.out.sl
  rw [H2.out] at C
  refine C.mono ?_
  clear C
  clear kb0 kb1 kb2 kb3 lb
  rintro e w10 ⟨rfl, hb⟩
  have B_10 := hI (bch B_7.out HRr.out hb)
  have Xa_11 := hI (Xa_8.out.on hb)
  have Xb_12 := hI (Xb_9.out.on hb)
  clear hb B_7 Xa_8 Xb_9
  go_wp2
  go_ret
  exact ⟨rfl, (by rw [HRr.out]; exact B_10.out)⟩

set_option linter.unusedSimpArgs false in
set_option maxRecDepth 20000 in
set_option maxHeartbeats 2000000 in
theorem rboth_t (p q : RVal) (w : World) (ha : p.In w) (hb : q.In w) (v : Bool) (h1 : (rv p.o p.od).isSome = true) (h2 : (rv q.o q.od).isSome = v) :
    Calls Tryz.prog 69 #[.agg #[.bool p.g, .slice p.A p.n p.c, .bool p.gd, .slice p.Ad p.nd p.cd], .agg #[.bool q.g, .slice q.A q.n q.c, .bool q.gd, .slice q.Ad q.nd q.cd]] w fun e w' => e = .returned (.bool v) ∧ Below w.heap.size w w' := by
  have H1 := hI h1
  have H2 := hI h2
  clear h1 h2
  have Ia_0 := hI ha
  clear ha
  have Ib_0 := hI hb
  clear hb
  have B_0 : Hid (Below w.heap.size w w) := hI (Below.refl _ _)
  go_enter Tryz.func69, Tryz.ntmps69
  go_wp2_with fail
  generalize hW : World.alloc w _ = W1
  have hn := below_new w (.cells #[.bool p.g, .slice p.A p.n p.c, .bool p.gd, .slice p.Ad p.nd p.cd] 27)
  rw [hW] at hn
  have hz : W1.heap.size = w.heap.size + 1 := by rw [← hW]; simp
  have hx : Rb W1 w.heap.size p := by rw [← hW]; exact Rb.new (q := p) Ia_0.out
  have Ib_1 := hI (Ib_0.out.on hn)
  have B_2 := hI (below_chain B_0.out B_0.out.size hn)
  generalize hr : w.heap.size = r at *
  have HRr := hI hr
  clear hr
  have Xa_3 : Hid (Rb W1 r p) := hI hx
  have HT3 := hz
  clear hn hx hz hW Ib_0 B_0 Ia_0
  generalize hW : World.alloc W1 _ = W4
  have hn := below_new W1 (.cells #[.bool q.g, .slice q.A q.n q.c, .bool q.gd, .slice q.Ad q.nd q.cd] 27)
  rw [hW] at hn
  have hx : Rb W4 W1.heap.size q := by rw [← hW]; exact Rb.new (q := q) Ib_1.out
  have hlt : r < W1.heap.size := Xa_3.out.lt
  have B_4 := hI (bch B_2.out HRr.out hn)
  have Xa_5 := hI (Xa_3.out.on hn)
  rw [HT3] at hx hlt
  have Xb_6 : Hid (Rb W4 (r + 1) q) := hI hx
  clear hn hx hW hlt B_2 Xa_3 Ib_1
  clear HT3
  have C := rvalid2 Xa_5.out.sl
  rw [H1.out] at C
  refine C.mono ?_
  clear C
  rintro e w7 ⟨rfl, hb⟩
  have B_7 := hI (bch B_4.out HRr.out hb)
  have Xa_8 := hI (Xa_5.out.on hb)
  have Xb_9 := hI (Xb_6.out.on hb)
  clear hb B_4 Xa_5 Xb_6
  obtain ⟨kb0, kb1, kb2, kb3⟩ := Xb_9.out.cs
  have lb := Xb_9.out.lt
  go_wp2_with fail
  have C := rvalid2 Xb_9.out.sl
  rw [H2.out] at C
  refine C.mono ?_
  clear C
  clear kb0 kb1 kb2 kb3 lb
  rintro e w10 ⟨rfl, hb⟩
  have B_10 := hI (bch B_7.out HRr.out hb)
  have Xa_11 := hI (Xa_8.out.on hb)
  have Xb_12 := hI (Xb_9.out.on hb)
  clear hb B_7 Xa_8 Xb_9
  go_wp2
  go_ret
  exact ⟨rfl, (by rw [HRr.out]; exact B_10.out)⟩

theorem rboth_q {p q : RVal} {w : World} (h : p.In w) (h' : q.In w) (v : Bool) (hv : ((rv p.o p.od).isSome && (rv q.o q.od).isSome) = v) :
    Calls Tryz.prog 69 #[.agg #[.bool p.g, .slice p.A p.n p.c, .bool p.gd, .slice p.Ad p.nd p.cd], .agg #[.bool q.g, .slice q.A q.n q.c, .bool q.gd, .slice q.Ad q.nd q.cd]] w fun e w' => e = .returned (.bool v) ∧ Below w.heap.size w w' := by
  rcases h1 : (rv p.o p.od).isSome with _ | _
  · rw [h1] at hv
    have : v = false := hv.symm
    subst this
    exact rboth_f p q w h h' _ h1 rfl
  · rw [h1] at hv
    exact rboth_t p q w h h' v h1 hv

end Go.Proofs.YtlibjampolcbhaaGreat