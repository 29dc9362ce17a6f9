/-
  Stage 2: Parse of the rationals.
-/
import Derived.Test.YtfodjaeknhomkaaShelfB
import Derived.Lib.CutLaws
import Derived.BigQuiet
import Derived.Deep.QuietTactic
import Derived.Test.YtfodjaeknhomkaaRatL
namespace Go.Proofs.Ytfodjaeknhomkaa
open Go.RowKit
set_option maxRecDepth 20000 in
theorem cut_lite (s : ByteArray) (w : World) (hs : s.size ≤ 140737488351232) :
    Calls Try.prog 60 #[.string s, .string ⟨#[47]⟩] w fun e w' => e = .returned (.tuple #[.string ⟨(Lib.cut s.data.toList [47]).1.toArray⟩, .string ⟨(Lib.cut s.data.toList [47]).2.1.toArray⟩, .bool (Lib.cut s.data.toList [47]).2.2]) ∧ ∃ n, w' = w.drewN n := by
  rcases Lib.indexB_cases s ⟨#[47]⟩ with hix | ⟨i, hix, hroom⟩
  · obtain ⟨e1, e2, e3⟩ := Lib.cutB_miss s ⟨#[47]⟩ hix
    have hi : Lib.indexByte s.data.toList 47 = -1 := by rw [← Lib.index_one]; exact hix
    have HE := Lib.hid (And.intro e1 (And.intro e2 e3))
    have HI := Lib.hid hi
    clear e1 e2 e3 hix hi
    go_enter Try.func60, Try.ntmps60
    go_wp2_with fail
    refine (Try.stringslite_Index_one s 47 _).mono ?_
    rintro e w' ⟨rfl, rfl⟩
    rw [HI.out]
    go_wp2
    go_ret3
    refine ⟨?_, 0, rfl⟩
    have e1 := HE.out.1
    have e2 := HE.out.2.1
    have e3 := HE.out.2.2
    rw [show (⟨(Lib.cut s.data.toList [47]).1.toArray⟩ : ByteArray) = s from e1, show (⟨(Lib.cut s.data.toList [47]).2.1.toArray⟩ : ByteArray) = ByteArray.empty from e2, show (Lib.cut s.data.toList [47]).2.2 = false from e3]
    rfl
  · obtain ⟨e1, e2, e3⟩ := Lib.cutB_hit s ⟨#[47]⟩ i hix
    have hi : Lib.indexByte s.data.toList 47 = (i : Int) := by rw [← Lib.index_one]; exact hix
    have hroom' : i + 1 ≤ s.size := hroom
    have HE := Lib.hid (And.intro e1 (And.intro e2 e3))
    have HI := Lib.hid hi
    have c1 : (0 : Int) ≤ ↑i := by omega
    have c2 : (↑i : Int) ≤ ↑s.size := by omega
    have c3 : (0 : Int) ≤ ↑i + 1 := by omega
    have c4 : (↑i + 1 : Int) ≤ ↑s.size := by omega
    clear e1 e2 e3 hix hi hroom hroom'
    go_enter Try.func60, Try.ntmps60
    go_wp2_with fail
    refine (Try.stringslite_Index_one s 47 _).mono ?_
    rintro e w' ⟨rfl, rfl⟩
    rw [HI.out]
    go_wp2
    go_region
    go_wp2
    go_ret3
    refine ⟨?_, 1, rfl⟩
    have e1 := HE.out.1
    have e2 := HE.out.2.1
    have e3 := HE.out.2.2
    rw [show (⟨(Lib.cut s.data.toList [47]).1.toArray⟩ : ByteArray) = s.extract 0 i from e1, show (⟨(Lib.cut s.data.toList [47]).2.1.toArray⟩ : ByteArray) = s.extract (i + 1) s.size from e2, show (Lib.cut s.data.toList [47]).2.2 = true from e3]
    rfl
theorem cut_slash (s : ByteArray) (w : World) (hs : s.size ≤ 140737488351232) :
    Calls Try.prog 35 #[.string s, .string ⟨#[47]⟩] w fun e w' => e = .returned (.tuple #[.string ⟨(Lib.cut s.data.toList [47]).1.toArray⟩, .string ⟨(Lib.cut s.data.toList [47]).2.1.toArray⟩, .bool (Lib.cut s.data.toList [47]).2.2]) ∧ ∃ n, w' = w.drewN n := by
  have C := fun w => cut_lite s w hs
  generalize (Lib.cut s.data.toList [47]).1 = a at *
  generalize (Lib.cut s.data.toList [47]).2.1 = b at *
  generalize (Lib.cut s.data.toList [47]).2.2 = f at *
  have HC := Lib.hid C
  clear C
  go_enter Try.func35, Try.ntmps35
  go_wp2_with fail
  refine (HC.out _).mono ?_
  rintro e w' ⟨rfl, k, rfl⟩
  go_wp2
  go_ret3
  exact ⟨rfl, k, rfl⟩
set_option maxHeartbeats 1000000 in
theorem parse_e1 (s sa sb : ByteArray) (w : World) (f : Bool) (z1 E1 : Int) (HC : Hid (∀ w : World, Calls Try.prog 35 #[.string s, .string ⟨#[47]⟩] w fun e w' => e = .returned (.tuple #[.string sa, .string sb, .bool f]) ∧ ∃ n, w' = w.drewN n)) (HP1 : Hid (∀ w : World, Calls Try.prog 36 #[.string sa] w (RetIE z1 E1 w))) (he : E1 ≠ 0) :
    Calls Try.prog 14 #[.string s] w (RetR 0 0 E1 w) := by
  have e1 : (E1 != 0) = true := by simpa using he
  clear he
  go_enter Try.func14, Try.ntmps14
  go_wp2_with fail
  refine (HC.out _).mono ?_
  rintro e w' ⟨rfl, k, rfl⟩
  have R0 := (Rb.new (RVal.nil_in w)).drewN k
  have B0 := below_drewN (below_new w (.cells #[.bool RVal.nil.g, .slice RVal.nil.A RVal.nil.n RVal.nil.c, .bool RVal.nil.gd, .slice RVal.nil.Ad RVal.nil.nd RVal.nil.cd] 28)) k
  generalize hV : World.drewN _ _ = V
  have hV' : ((w.alloc (.cells #[.bool RVal.nil.g, .slice RVal.nil.A RVal.nil.n RVal.nil.c, .bool RVal.nil.gd, .slice RVal.nil.Ad RVal.nil.nd RVal.nil.cd] 28)).drewN k) = V := hV
  rw [hV'] at R0 B0
  have R0' := Lib.hid R0
  have B0' := Lib.hid B0
  clear hV hV' R0 B0
  generalize hr : w.heap.size = r at *
  have HRr := Lib.hid hr
  clear hr
  go_wp2_with fail
  refine (HP1.out _).mono ?_
  rintro e w1 ⟨A1, n1, c1, xs1, rfl, hs1, hx1, hv1, hb1⟩
  have B1 := Lib.hid (below_chain B0'.out (by have := B0'.out.size; have := HRr.out; omega) hb1)
  have RX := Lib.hid (R0'.out.on hb1)
  have G1 := Lib.hid (And.intro hs1 (And.intro hx1 hv1))
  clear hb1 hs1 hx1 hv1 R0' B0'
  have ylt := RX.out.lt
  have f0 := RX.out.f 0
  have f1 := RX.out.f 1
  have f2 := RX.out.f 2
  have f3 := RX.out.f 3
  have q0 := RX.out.c0
  have q1 := RX.out.c1
  have q2 := RX.out.c2
  have q3 := RX.out.c3
  simp only [RVal.nil] at q0 q1 q2 q3
  go_wp2
  generalize hU : World.alloc (World.setCell (World.setCell (World.setCell (World.setCell w1 _ _) _ _) _ _) _ _) _ = U
  have RU' := (Rb.alloc (Rb.put RX.out (RVal.nil_in w1)) (.cells #[.bool (decide (z1 < 0)), .slice A1 n1 c1] 26))
  have RU : Rb U r RVal.nil := by rw [← hU]; exact RU'
  have HU : Below w.heap.size w U := by rw [← hU, HRr.out]; exact (below_chain (below_put4 B1.out (Nat.le_refl _) _ _ _ _) (Nat.le_trans (HRr.out ▸ B1.out.size) (by simp [put4_size]; try omega)) (below_new _ (.cells #[.bool (decide (z1 < 0)), .slice A1 n1 c1] 26)))
  have j0 := RU.c0
  have j1 := RU.c1
  have j2 := RU.c2
  have j3 := RU.c3
  refine bodyPost_ret (v := .tuple #[.agg #[.bool RVal.nil.g, .slice RVal.nil.A RVal.nil.n RVal.nil.c, .bool RVal.nil.gd, .slice RVal.nil.Ad RVal.nil.nd RVal.nil.cd], .int .i64 E1]) (by simp [results, Try.results14, go_sem, j0, j1, j2, j3]) rfl ?_
  exact RetR.of RU rfl rfl HU
set_option maxHeartbeats 1000000 in
theorem parse_n (s sa sb : ByteArray) (w : World) (z1 E1 : Int) (HC : Hid (∀ w : World, Calls Try.prog 35 #[.string s, .string ⟨#[47]⟩] w fun e w' => e = .returned (.tuple #[.string sa, .string sb, .bool false]) ∧ ∃ n, w' = w.drewN n)) (HP1 : Hid (∀ w : World, Calls Try.prog 36 #[.string sa] w (RetIE z1 E1 w))) (he : E1 = 0) (hz : z1.natAbs < BIG) :
    Calls Try.prog 14 #[.string s] w (RetR z1 1 0 w) := by
  have HZ := Lib.hid hz
  clear hz
  subst he
  go_enter Try.func14, Try.ntmps14
  go_wp2_with fail
  refine (HC.out _).mono ?_
  rintro e w' ⟨rfl, k, rfl⟩
  have R0 := (Rb.new (RVal.nil_in w)).drewN k
  have B0 := below_drewN (below_new w (.cells #[.bool RVal.nil.g, .slice RVal.nil.A RVal.nil.n RVal.nil.c, .bool RVal.nil.gd, .slice RVal.nil.Ad RVal.nil.nd RVal.nil.cd] 28)) k
  generalize hV : World.drewN _ _ = V
  have hV' : ((w.alloc (.cells #[.bool RVal.nil.g, .slice RVal.nil.A RVal.nil.n RVal.nil.c, .bool RVal.nil.gd, .slice RVal.nil.Ad RVal.nil.nd RVal.nil.cd] 28)).drewN k) = V := hV
  rw [hV'] at R0 B0
  have R0' := Lib.hid R0
  have B0' := Lib.hid B0
  clear hV hV' R0 B0
  generalize hr : w.heap.size = r at *
  have HRr := Lib.hid hr
  clear hr
  go_wp2_with fail
  refine (HP1.out _).mono ?_
  rintro e w1 ⟨A1, n1, c1, xs1, rfl, hs1, hx1, hv1, hb1⟩
  have B1 := Lib.hid (below_chain B0'.out (by have := B0'.out.size; have := HRr.out; omega) hb1)
  have RX := Lib.hid (R0'.out.on hb1)
  have G1 := Lib.hid (And.intro hs1 (And.intro hx1 hv1))
  clear hb1 hs1 hx1 hv1 R0' B0'
  have lt1 := RX.out.lt
  go_wp2
  generalize hW : World.alloc w1 _ = V1
  have hn := below_new w1 (.cells #[.bool (decide (z1 < 0)), .slice A1 n1 c1] 26)
  have hbx := Bx.new w1 (decide (z1 < 0)) A1 n1 c1
  rw [hW] at hn hbx
  have BX := Lib.hid (show Ba V1 w1.heap.size (decide (z1 < 0)) A1 n1 c1 xs1 from ⟨hbx, G1.out.1.on hn⟩)
  have RX1 := Lib.hid (RX.out.on hn)
  have B2 := Lib.hid (below_chain B1.out (by have := B1.out.size; have := HRr.out; omega) hn)
  have HN := Lib.hid (show Nz xs1 ∧ val xs1 = z1.natAbs from G1.out.2)
  have ne1 : w1.heap.size ≠ r := by omega
  have ne2 : r ≠ w1.heap.size := by omega
  clear hW hn hbx RX B1 lt1 G1
  generalize w1.heap.size = m at *
  have p0 := BX.out.bx.c0
  have p1 := BX.out.bx.c1
  go_region_held3 (fun w' => w'.cell? ⟨m, 0, none⟩ = some (.bool (decide (z1 < 0))) ∧ w'.cell? ⟨m, 1, none⟩ = some (.slice A1 n1 c1)) (go_keep)
    (first
      | (go_at_call 17
         (with_reducible refine (of_any 1 _ (by omega) (by omega)).mono ?_)
         rintro e v1 ⟨A2, n2, c2, xs2, rfl, hs2, hx2, hv2, hbn⟩
         have hb3 : Below V1.heap.size V1 v1 := ⟨hbn.os, hbn.tape, hbn.output, hbn.size, hbn.block⟩
         have RX2 := Lib.hid (RX1.out.on hb3)
         have B3 := Lib.hid (below_chain B2.out (by have := B2.out.size; have := HRr.out; omega) hb3)
         have BX2 := Lib.hid (BX.out.on hb3)
         have G2 := Lib.hid (And.intro hs2 (And.intro hx2 hv2))
         clear hbn hb3 hs2 hx2 hv2 p0 p1
         have p0 := BX2.out.bx.c0
         have p1 := BX2.out.bx.c1
         have f0 := RX2.out.f 0
         have f1 := RX2.out.f 1
         have f2 := RX2.out.f 2
         have f3 := RX2.out.f 3
         have q0 := RX2.out.c0
         have q1 := RX2.out.c1
         have q2 := RX2.out.c2
         have q3 := RX2.out.c3
         simp only [RVal.nil] at q0 q1 q2 q3
         ))
  go_wp2
  have HQ9 := Lib.hid (And.intro (ov_res BX2.out.sl.ok HN.out.1 HN.out.2 HZ.out) (ov_res (z := 1) G2.out.1.ok G2.out.2.1 G2.out.2.2 (lt_big (by decide))))
  generalize hU : World.setCell (World.setCell (World.setCell (World.setCell v1 _ _) _ _) _ _) _ _ = U
  have RU' := (Rb.put (q' := (⟨(decide (z1 < 0)), A1, n1, c1, xs1, false, A2, n2, c2, xs2⟩ : RVal)) RX2.out ⟨BX2.out.sl, G2.out.1⟩)
  have RU : Rb U r (⟨(decide (z1 < 0)), A1, n1, c1, xs1, false, A2, n2, c2, xs2⟩ : RVal) := by rw [← hU]; exact RU'
  have HU : Below w.heap.size w U := by rw [← hU, HRr.out]; exact (below_put4 B3.out (Nat.le_refl _) _ _ _ _)
  have j0 := RU.c0
  have j1 := RU.c1
  have j2 := RU.c2
  have j3 := RU.c3
  dsimp only at j0 j1 j2 j3
  refine bodyPost_ret (v := .tuple #[.agg #[.bool (decide (z1 < 0)), .slice A1 n1 c1, .bool false, .slice A2 n2 c2], .int .i64 0]) (by simp [results, Try.results14, go_sem, j0, j1, j2, j3]) rfl ?_
  exact RetR.of RU HQ9.out.1 HQ9.out.2 HU
set_option maxHeartbeats 1000000 in
theorem parse_e2 (s sa sb : ByteArray) (w : World) (z1 z2 E1 E2 : Int) (HC : Hid (∀ w : World, Calls Try.prog 35 #[.string s, .string ⟨#[47]⟩] w fun e w' => e = .returned (.tuple #[.string sa, .string sb, .bool true]) ∧ ∃ n, w' = w.drewN n)) (HP1 : Hid (∀ w : World, Calls Try.prog 36 #[.string sa] w (RetIE z1 E1 w))) (HP2 : Hid (∀ w : World, Calls Try.prog 36 #[.string sb] w (RetIE z2 E2 w))) (h0 : E1 = 0) (he : E2 ≠ 0) :
    Calls Try.prog 14 #[.string s] w (RetR 0 0 E2 w) := by
  have e1 : (E2 != 0) = true := by simpa using he
  clear he
  subst h0
  go_enter Try.func14, Try.ntmps14
  go_wp2_with fail
  refine (HC.out _).mono ?_
  rintro e w' ⟨rfl, k, rfl⟩
  have R0 := (Rb.new (RVal.nil_in w)).drewN k
  have B0 := below_drewN (below_new w (.cells #[.bool RVal.nil.g, .slice RVal.nil.A RVal.nil.n RVal.nil.c, .bool RVal.nil.gd, .slice RVal.nil.Ad RVal.nil.nd RVal.nil.cd] 28)) k
  generalize hV : World.drewN _ _ = V
  have hV' : ((w.alloc (.cells #[.bool RVal.nil.g, .slice RVal.nil.A RVal.nil.n RVal.nil.c, .bool RVal.nil.gd, .slice RVal.nil.Ad RVal.nil.nd RVal.nil.cd] 28)).drewN k) = V := hV
  rw [hV'] at R0 B0
  have R0' := Lib.hid R0
  have B0' := Lib.hid B0
  clear hV hV' R0 B0
  generalize hr : w.heap.size = r at *
  have HRr := Lib.hid hr
  clear hr
  go_wp2_with fail
  refine (HP1.out _).mono ?_
  rintro e w1 ⟨A1, n1, c1, xs1, rfl, hs1, hx1, hv1, hb1⟩
  have B1 := Lib.hid (below_chain B0'.out (by have := B0'.out.size; have := HRr.out; omega) hb1)
  have RX := Lib.hid (R0'.out.on hb1)
  have G1 := Lib.hid (And.intro hs1 (And.intro hx1 hv1))
  clear hb1 hs1 hx1 hv1 R0' B0'
  have lt1 := RX.out.lt
  go_wp2_with fail
  generalize hW : World.alloc w1 _ = V1
  have hn := below_new w1 (.cells #[.bool (decide (z1 < 0)), .slice A1 n1 c1] 26)
  have hbx := Bx.new w1 (decide (z1 < 0)) A1 n1 c1
  rw [hW] at hn hbx
  have BX := Lib.hid (show Ba V1 w1.heap.size (decide (z1 < 0)) A1 n1 c1 xs1 from ⟨hbx, G1.out.1.on hn⟩)
  have RX1 := Lib.hid (RX.out.on hn)
  have B2 := Lib.hid (below_chain B1.out (by have := B1.out.size; have := HRr.out; omega) hn)
  have HN := Lib.hid (show Nz xs1 ∧ val xs1 = z1.natAbs from G1.out.2)
  have ne1 : w1.heap.size ≠ r := by omega
  have ne2 : r ≠ w1.heap.size := by omega
  clear hW hn hbx RX B1 lt1 G1
  generalize w1.heap.size = m at *
  refine (HP2.out V1).mono ?_
  rintro e w2 ⟨A2, n2, c2, xs2, rfl, hs2, hx2, hv2, hb2⟩
  have B3 := Lib.hid (below_chain B2.out (by have := B2.out.size; have := HRr.out; omega) hb2)
  have RX2 := Lib.hid (RX1.out.on hb2)
  have BX2 := Lib.hid (BX.out.on hb2)
  have G2 := Lib.hid (And.intro hs2 (And.intro hx2 hv2))
  clear hb2 hs2 hx2 hv2 RX1 B2 BX
  have zlt := BX2.out.bx.lt
  have ylt := RX2.out.lt
  have f0 := RX2.out.f 0
  have f1 := RX2.out.f 1
  have f2 := RX2.out.f 2
  have f3 := RX2.out.f 3
  have q0 := RX2.out.c0
  have q1 := RX2.out.c1
  have q2 := RX2.out.c2
  have q3 := RX2.out.c3
  simp only [RVal.nil] at q0 q1 q2 q3
  go_wp2
  generalize hU : World.alloc (World.setCell (World.setCell (World.setCell (World.setCell w2 _ _) _ _) _ _) _ _) _ = U
  have RU' := (Rb.alloc (Rb.put RX2.out (RVal.nil_in w2)) (.cells #[.bool (decide (z2 < 0)), .slice A2 n2 c2] 26))
  have RU : Rb U r RVal.nil := by rw [← hU]; exact RU'
  have HU : Below w.heap.size w U := by rw [← hU, HRr.out]; exact (below_chain (below_put4 B3.out (Nat.le_refl _) _ _ _ _) (Nat.le_trans (HRr.out ▸ B3.out.size) (by simp [put4_size]; try omega)) (below_new _ (.cells #[.bool (decide (z2 < 0)), .slice A2 n2 c2] 26)))
  have j0 := RU.c0
  have j1 := RU.c1
  have j2 := RU.c2
  have j3 := RU.c3
  refine bodyPost_ret (v := .tuple #[.agg #[.bool RVal.nil.g, .slice RVal.nil.A RVal.nil.n RVal.nil.c, .bool RVal.nil.gd, .slice RVal.nil.Ad RVal.nil.nd RVal.nil.cd], .int .i64 E2]) (by simp [results, Try.results14, go_sem, j0, j1, j2, j3]) rfl ?_
  exact RetR.of RU rfl rfl HU
set_option maxHeartbeats 1000000 in
theorem parse_b1 (s sa sb : ByteArray) (w : World) (z1 z2 E1 E2 : Int) (HC : Hid (∀ w : World, Calls Try.prog 35 #[.string s, .string ⟨#[47]⟩] w fun e w' => e = .returned (.tuple #[.string sa, .string sb, .bool true]) ∧ ∃ n, w' = w.drewN n)) (HP1 : Hid (∀ w : World, Calls Try.prog 36 #[.string sa] w (RetIE z1 E1 w))) (HP2 : Hid (∀ w : World, Calls Try.prog 36 #[.string sb] w (RetIE z2 E2 w))) (h0 : E1 = 0) (h1 : E2 = 0) (hz1 : z1.natAbs < BIG) (hz2 : z2.natAbs < BIG) (hv : (rv (some z1) (some z2)).isSome = false) :
    Calls Try.prog 14 #[.string s] w (RetR 0 0 3 w) := by
  have HZ := Lib.hid (And.intro hz1 hz2)
  have HE := Lib.hid (show (rv (some z1) (some z2)).isSome = false ∧ True from ⟨hv, trivial⟩)
  clear hz1 hz2 hv
  subst h0
  subst h1
  go_enter Try.func14, Try.ntmps14
  go_wp2_with fail
  refine (HC.out _).mono ?_
  rintro e w' ⟨rfl, k, rfl⟩
  have R0 := (Rb.new (RVal.nil_in w)).drewN k
  have B0 := below_drewN (below_new w (.cells #[.bool RVal.nil.g, .slice RVal.nil.A RVal.nil.n RVal.nil.c, .bool RVal.nil.gd, .slice RVal.nil.Ad RVal.nil.nd RVal.nil.cd] 28)) k
  generalize hV : World.drewN _ _ = V
  have hV' : ((w.alloc (.cells #[.bool RVal.nil.g, .slice RVal.nil.A RVal.nil.n RVal.nil.c, .bool RVal.nil.gd, .slice RVal.nil.Ad RVal.nil.nd RVal.nil.cd] 28)).drewN k) = V := hV
  rw [hV'] at R0 B0
  have R0' := Lib.hid R0
  have B0' := Lib.hid B0
  clear hV hV' R0 B0
  generalize hr : w.heap.size = r at *
  have HRr := Lib.hid hr
  clear hr
  go_wp2_with fail
  refine (HP1.out _).mono ?_
  rintro e w1 ⟨A1, n1, c1, xs1, rfl, hs1, hx1, hv1, hb1⟩
  have B1 := Lib.hid (below_chain B0'.out (by have := B0'.out.size; have := HRr.out; omega) hb1)
  have RX := Lib.hid (R0'.out.on hb1)
  have G1 := Lib.hid (And.intro hs1 (And.intro hx1 hv1))
  clear hb1 hs1 hx1 hv1 R0' B0'
  have lt1 := RX.out.lt
  go_wp2_with fail
  generalize hW : World.alloc w1 _ = V1
  have hn := below_new w1 (.cells #[.bool (decide (z1 < 0)), .slice A1 n1 c1] 26)
  have hbx := Bx.new w1 (decide (z1 < 0)) A1 n1 c1
  rw [hW] at hn hbx
  have BX := Lib.hid (show Ba V1 w1.heap.size (decide (z1 < 0)) A1 n1 c1 xs1 from ⟨hbx, G1.out.1.on hn⟩)
  have RX1 := Lib.hid (RX.out.on hn)
  have B2 := Lib.hid (below_chain B1.out (by have := B1.out.size; have := HRr.out; omega) hn)
  have HN := Lib.hid (show Nz xs1 ∧ val xs1 = z1.natAbs from G1.out.2)
  have ne1 : w1.heap.size ≠ r := by omega
  have ne2 : r ≠ w1.heap.size := by omega
  clear hW hn hbx RX B1 lt1 G1
  generalize w1.heap.size = m at *
  refine (HP2.out V1).mono ?_
  rintro e w2 ⟨A2, n2, c2, xs2, rfl, hs2, hx2, hv2, hb2⟩
  have B3 := Lib.hid (below_chain B2.out (by have := B2.out.size; have := HRr.out; omega) hb2)
  have RX2 := Lib.hid (RX1.out.on hb2)
  have BX2 := Lib.hid (BX.out.on hb2)
  have G2 := Lib.hid (And.intro hs2 (And.intro hx2 hv2))
  clear hb2 hs2 hx2 hv2 RX1 B2 BX
  have kb0 := BX2.out.bx.c0
  have kb1 := BX2.out.bx.c1
  have kbl := BX2.out.bx.lt
  have rlt := RX2.out.lt
  go_wp2_with fail
  generalize hW : World.alloc (World.alloc w2 _) _ = V3
  have hn3 := below_new w2 (.cells #[.bool (decide (z2 < 0)), .slice A2 n2 c2] 26)
  have hc3 := Bx.new w2 (decide (z2 < 0)) A2 n2 c2
  have hn4 := below_new (w2.alloc (.cells #[.bool (decide (z2 < 0)), .slice A2 n2 c2] 26)) (.cells #[.bool (decide (z1 < 0)), .slice A1 n1 c1, .bool (decide (z2 < 0)), .slice A2 n2 c2] 28)
  have hQ := Rb.new (q := (⟨decide (z1 < 0), A1, n1, c1, xs1, decide (z2 < 0), A2, n2, c2, xs2⟩ : RVal)) (w := w2.alloc (.cells #[.bool (decide (z2 < 0)), .slice A2 n2 c2] 26)) ⟨BX2.out.sl.on hn3, G2.out.1.on hn3⟩
  have hQ' : Rb (World.alloc (w2.alloc (.cells #[.bool (decide (z2 < 0)), .slice A2 n2 c2] 26)) (.cells #[.bool (decide (z1 < 0)), .slice A1 n1 c1, .bool (decide (z2 < 0)), .slice A2 n2 c2] 28)) (w2.heap.size + 1) (⟨decide (z1 < 0), A1, n1, c1, xs1, decide (z2 < 0), A2, n2, c2, xs2⟩ : RVal) := by simpa using hQ
  rw [hW] at hn4 hQ'
  have B4 := Lib.hid (below_chain (below_chain B3.out (by have := B3.out.size; have := HRr.out; omega) hn3) (by have := B3.out.size; have := HRr.out; simp; omega) hn4)
  have RX3 := Lib.hid ((RX2.out.on hn3).on hn4)
  have BD : Hid (Bx V3 w2.heap.size (decide (z2 < 0)) A2 n2 c2) := Lib.hid (hc3.below hn4 hc3.lt)
  have QQ := Lib.hid hQ'
  have HO := Lib.hid (And.intro (ov_res BX2.out.sl.ok HN.out.1 HN.out.2 HZ.out.1) (ov_res G2.out.1.ok G2.out.2.1 G2.out.2.2 HZ.out.2))
  have SD := Lib.hid ((G2.out.1.on hn3).on hn4)
  have rm : r < w2.heap.size := rlt
  clear hn3 hc3 hn4 hQ hQ' hW kb0 kb1 kbl rlt RX2 B3 BX2 G2 HN
  generalize w2.heap.size = d at *
  have C := ratValid_r QQ.out.sl
  rw [show RVal.o (⟨decide (z1 < 0), A1, n1, c1, xs1, decide (z2 < 0), A2, n2, c2, xs2⟩ : RVal) = some z1 from HO.out.1, show RVal.od (⟨decide (z1 < 0), A1, n1, c1, xs1, decide (z2 < 0), A2, n2, c2, xs2⟩ : RVal) = some z2 from HO.out.2, HE.out.1] at C
  refine C.mono ?_
  clear C
  rintro e w5 ⟨rfl, hb5⟩
  have B5 := Lib.hid (below_chain B4.out (by have := B4.out.size; have := HRr.out; omega) hb5)
  have RX5 := Lib.hid (RX3.out.on hb5)
  have BD5 := Lib.hid (BD.out.below hb5 BD.out.lt)
  have QQ5 := Lib.hid (QQ.out.on hb5)
  have SD5 := Lib.hid (SD.out.on hb5)
  clear hb5 B4 RX3 BD QQ SD
  have f0 := RX5.out.f 0
  have f1 := RX5.out.f 1
  have f2 := RX5.out.f 2
  have f3 := RX5.out.f 3
  have q0 := RX5.out.c0
  have q1 := RX5.out.c1
  have q2 := RX5.out.c2
  have q3 := RX5.out.c3
  simp only [RVal.nil] at q0 q1 q2 q3
  go_wp2
  generalize hU : World.setCell (World.setCell (World.setCell (World.setCell w5 _ _) _ _) _ _) _ _ = U
  have RU' := (Rb.put RX5.out (RVal.nil_in w5))
  have RU : Rb U r RVal.nil := by rw [← hU]; exact RU'
  have HU : Below w.heap.size w U := by rw [← hU, HRr.out]; exact (below_put4 B5.out (Nat.le_refl _) _ _ _ _)
  have j0 := RU.c0
  have j1 := RU.c1
  have j2 := RU.c2
  have j3 := RU.c3
  refine bodyPost_ret (v := .tuple #[.agg #[.bool RVal.nil.g, .slice RVal.nil.A RVal.nil.n RVal.nil.c, .bool RVal.nil.gd, .slice RVal.nil.Ad RVal.nil.nd RVal.nil.cd], .int .i64 3]) (by simp [results, Try.results14, go_sem, j0, j1, j2, j3]) rfl ?_
  exact RetR.of RU rfl rfl HU
set_option maxHeartbeats 1000000 in
theorem parse_b2 (s sa sb : ByteArray) (w : World) (z1 z2 E1 E2 : Int) (HC : Hid (∀ w : World, Calls Try.prog 35 #[.string s, .string ⟨#[47]⟩] w fun e w' => e = .returned (.tuple #[.string sa, .string sb, .bool true]) ∧ ∃ n, w' = w.drewN n)) (HP1 : Hid (∀ w : World, Calls Try.prog 36 #[.string sa] w (RetIE z1 E1 w))) (HP2 : Hid (∀ w : World, Calls Try.prog 36 #[.string sb] w (RetIE z2 E2 w))) (h0 : E1 = 0) (h1 : E2 = 0) (hz1 : z1.natAbs < BIG) (hz2 : z2.natAbs < BIG) (hv : (rv (some z1) (some z2)).isSome = true) (ho : decide (z2 = 1) = true) :
    Calls Try.prog 14 #[.string s] w (RetR 0 0 3 w) := by
  have HZ := Lib.hid (And.intro hz1 hz2)
  have HE := Lib.hid (show (rv (some z1) (some z2)).isSome = true ∧ decide (z2 = 1) = true from ⟨hv, ho⟩)
  clear hz1 hz2 hv ho
  subst h0
  subst h1
  go_enter Try.func14, Try.ntmps14
  go_wp2_with fail
  refine (HC.out _).mono ?_
  rintro e w' ⟨rfl, k, rfl⟩
  have R0 := (Rb.new (RVal.nil_in w)).drewN k
  have B0 := below_drewN (below_new w (.cells #[.bool RVal.nil.g, .slice RVal.nil.A RVal.nil.n RVal.nil.c, .bool RVal.nil.gd, .slice RVal.nil.Ad RVal.nil.nd RVal.nil.cd] 28)) k
  generalize hV : World.drewN _ _ = V
  have hV' : ((w.alloc (.cells #[.bool RVal.nil.g, .slice RVal.nil.A RVal.nil.n RVal.nil.c, .bool RVal.nil.gd, .slice RVal.nil.Ad RVal.nil.nd RVal.nil.cd] 28)).drewN k) = V := hV
  rw [hV'] at R0 B0
  have R0' := Lib.hid R0
  have B0' := Lib.hid B0
  clear hV hV' R0 B0
  generalize hr : w.heap.size = r at *
  have HRr := Lib.hid hr
  clear hr
  go_wp2_with fail
  refine (HP1.out _).mono ?_
  rintro e w1 ⟨A1, n1, c1, xs1, rfl, hs1, hx1, hv1, hb1⟩
  have B1 := Lib.hid (below_chain B0'.out (by have := B0'.out.size; have := HRr.out; omega) hb1)
  have RX := Lib.hid (R0'.out.on hb1)
  have G1 := Lib.hid (And.intro hs1 (And.intro hx1 hv1))
  clear hb1 hs1 hx1 hv1 R0' B0'
  have lt1 := RX.out.lt
  go_wp2_with fail
  generalize hW : World.alloc w1 _ = V1
  have hn := below_new w1 (.cells #[.bool (decide (z1 < 0)), .slice A1 n1 c1] 26)
  have hbx := Bx.new w1 (decide (z1 < 0)) A1 n1 c1
  rw [hW] at hn hbx
  have BX := Lib.hid (show Ba V1 w1.heap.size (decide (z1 < 0)) A1 n1 c1 xs1 from ⟨hbx, G1.out.1.on hn⟩)
  have RX1 := Lib.hid (RX.out.on hn)
  have B2 := Lib.hid (below_chain B1.out (by have := B1.out.size; have := HRr.out; omega) hn)
  have HN := Lib.hid (show Nz xs1 ∧ val xs1 = z1.natAbs from G1.out.2)
  have ne1 : w1.heap.size ≠ r := by omega
  have ne2 : r ≠ w1.heap.size := by omega
  clear hW hn hbx RX B1 lt1 G1
  generalize w1.heap.size = m at *
  refine (HP2.out V1).mono ?_
  rintro e w2 ⟨A2, n2, c2, xs2, rfl, hs2, hx2, hv2, hb2⟩
  have B3 := Lib.hid (below_chain B2.out (by have := B2.out.size; have := HRr.out; omega) hb2)
  have RX2 := Lib.hid (RX1.out.on hb2)
  have BX2 := Lib.hid (BX.out.on hb2)
  have G2 := Lib.hid (And.intro hs2 (And.intro hx2 hv2))
  clear hb2 hs2 hx2 hv2 RX1 B2 BX
  have kb0 := BX2.out.bx.c0
  have kb1 := BX2.out.bx.c1
  have kbl := BX2.out.bx.lt
  have rlt := RX2.out.lt
  go_wp2_with fail
  generalize hW : World.alloc (World.alloc w2 _) _ = V3
  have hn3 := below_new w2 (.cells #[.bool (decide (z2 < 0)), .slice A2 n2 c2] 26)
  have hc3 := Bx.new w2 (decide (z2 < 0)) A2 n2 c2
  have hn4 := below_new (w2.alloc (.cells #[.bool (decide (z2 < 0)), .slice A2 n2 c2] 26)) (.cells #[.bool (decide (z1 < 0)), .slice A1 n1 c1, .bool (decide (z2 < 0)), .slice A2 n2 c2] 28)
  have hQ := Rb.new (q := (⟨decide (z1 < 0), A1, n1, c1, xs1, decide (z2 < 0), A2, n2, c2, xs2⟩ : RVal)) (w := w2.alloc (.cells #[.bool (decide (z2 < 0)), .slice A2 n2 c2] 26)) ⟨BX2.out.sl.on hn3, G2.out.1.on hn3⟩
  have hQ' : Rb (World.alloc (w2.alloc (.cells #[.bool (decide (z2 < 0)), .slice A2 n2 c2] 26)) (.cells #[.bool (decide (z1 < 0)), .slice A1 n1 c1, .bool (decide (z2 < 0)), .slice A2 n2 c2] 28)) (w2.heap.size + 1) (⟨decide (z1 < 0), A1, n1, c1, xs1, decide (z2 < 0), A2, n2, c2, xs2⟩ : RVal) := by simpa using hQ
  rw [hW] at hn4 hQ'
  have B4 := Lib.hid (below_chain (below_chain B3.out (by have := B3.out.size; have := HRr.out; omega) hn3) (by have := B3.out.size; have := HRr.out; simp; omega) hn4)
  have RX3 := Lib.hid ((RX2.out.on hn3).on hn4)
  have BD : Hid (Bx V3 w2.heap.size (decide (z2 < 0)) A2 n2 c2) := Lib.hid (hc3.below hn4 hc3.lt)
  have QQ := Lib.hid hQ'
  have HO := Lib.hid (And.intro (ov_res BX2.out.sl.ok HN.out.1 HN.out.2 HZ.out.1) (ov_res G2.out.1.ok G2.out.2.1 G2.out.2.2 HZ.out.2))
  have SD := Lib.hid ((G2.out.1.on hn3).on hn4)
  have rm : r < w2.heap.size := rlt
  clear hn3 hc3 hn4 hQ hQ' hW kb0 kb1 kbl rlt RX2 B3 BX2 G2 HN
  generalize w2.heap.size = d at *
  have C := ratValid_r QQ.out.sl
  rw [show RVal.o (⟨decide (z1 < 0), A1, n1, c1, xs1, decide (z2 < 0), A2, n2, c2, xs2⟩ : RVal) = some z1 from HO.out.1, show RVal.od (⟨decide (z1 < 0), A1, n1, c1, xs1, decide (z2 < 0), A2, n2, c2, xs2⟩ : RVal) = some z2 from HO.out.2, HE.out.1] at C
  refine C.mono ?_
  clear C
  rintro e w5 ⟨rfl, hb5⟩
  have B5 := Lib.hid (below_chain B4.out (by have := B4.out.size; have := HRr.out; omega) hb5)
  have RX5 := Lib.hid (RX3.out.on hb5)
  have BD5 := Lib.hid (BD.out.below hb5 BD.out.lt)
  have QQ5 := Lib.hid (QQ.out.on hb5)
  have SD5 := Lib.hid (SD.out.on hb5)
  clear hb5 B4 RX3 BD QQ SD
  have kd0 := BD5.out.c0
  have kd1 := BD5.out.c1
  go_wp2_with fail
  have C := isOne_ov (neg := decide (z2 < 0)) SD5.out
  rw [HO.out.2, oneB_some, HE.out.2] at C
  refine C.mono ?_
  clear C kd0 kd1
  rintro e w6 ⟨rfl, hb6⟩
  have B6 := Lib.hid (below_chain B5.out (by have := B5.out.size; have := HRr.out; omega) hb6)
  have RX6 := Lib.hid (RX5.out.on hb6)
  have QQ6 := Lib.hid (QQ5.out.on hb6)
  clear hb6 B5 RX5 BD5 QQ5 SD5
  have f0 := RX6.out.f 0
  have f1 := RX6.out.f 1
  have f2 := RX6.out.f 2
  have f3 := RX6.out.f 3
  have q0 := RX6.out.c0
  have q1 := RX6.out.c1
  have q2 := RX6.out.c2
  have q3 := RX6.out.c3
  simp only [RVal.nil] at q0 q1 q2 q3
  go_wp2
  generalize hU : World.setCell (World.setCell (World.setCell (World.setCell w6 _ _) _ _) _ _) _ _ = U
  have RU' := (Rb.put RX6.out (RVal.nil_in w6))
  have RU : Rb U r RVal.nil := by rw [← hU]; exact RU'
  have HU : Below w.heap.size w U := by rw [← hU, HRr.out]; exact (below_put4 B6.out (Nat.le_refl _) _ _ _ _)
  have j0 := RU.c0
  have j1 := RU.c1
  have j2 := RU.c2
  have j3 := RU.c3
  refine bodyPost_ret (v := .tuple #[.agg #[.bool RVal.nil.g, .slice RVal.nil.A RVal.nil.n RVal.nil.c, .bool RVal.nil.gd, .slice RVal.nil.Ad RVal.nil.nd RVal.nil.cd], .int .i64 3]) (by simp [results, Try.results14, go_sem, j0, j1, j2, j3]) rfl ?_
  exact RetR.of RU rfl rfl HU
set_option maxHeartbeats 1000000 in
theorem parse_ok (s sa sb : ByteArray) (w : World) (z1 z2 E1 E2 : Int) (HC : Hid (∀ w : World, Calls Try.prog 35 #[.string s, .string ⟨#[47]⟩] w fun e w' => e = .returned (.tuple #[.string sa, .string sb, .bool true]) ∧ ∃ n, w' = w.drewN n)) (HP1 : Hid (∀ w : World, Calls Try.prog 36 #[.string sa] w (RetIE z1 E1 w))) (HP2 : Hid (∀ w : World, Calls Try.prog 36 #[.string sb] w (RetIE z2 E2 w))) (h0 : E1 = 0) (h1 : E2 = 0) (hz1 : z1.natAbs < BIG) (hz2 : z2.natAbs < BIG) (hv : (rv (some z1) (some z2)).isSome = true) (ho : decide (z2 = 1) = false) :
    Calls Try.prog 14 #[.string s] w (RetR z1 z2 0 w) := by
  have HZ := Lib.hid (And.intro hz1 hz2)
  have HE := Lib.hid (show (rv (some z1) (some z2)).isSome = true ∧ decide (z2 = 1) = false from ⟨hv, ho⟩)
  clear hz1 hz2 hv ho
  subst h0
  subst h1
  go_enter Try.func14, Try.ntmps14
  go_wp2_with fail
  refine (HC.out _).mono ?_
  rintro e w' ⟨rfl, k, rfl⟩
  have R0 := (Rb.new (RVal.nil_in w)).drewN k
  have B0 := below_drewN (below_new w (.cells #[.bool RVal.nil.g, .slice RVal.nil.A RVal.nil.n RVal.nil.c, .bool RVal.nil.gd, .slice RVal.nil.Ad RVal.nil.nd RVal.nil.cd] 28)) k
  generalize hV : World.drewN _ _ = V
  have hV' : ((w.alloc (.cells #[.bool RVal.nil.g, .slice RVal.nil.A RVal.nil.n RVal.nil.c, .bool RVal.nil.gd, .slice RVal.nil.Ad RVal.nil.nd RVal.nil.cd] 28)).drewN k) = V := hV
  rw [hV'] at R0 B0
  have R0' := Lib.hid R0
  have B0' := Lib.hid B0
  clear hV hV' R0 B0
  generalize hr : w.heap.size = r at *
  have HRr := Lib.hid hr
  clear hr
  go_wp2_with fail
  refine (HP1.out _).mono ?_
  rintro e w1 ⟨A1, n1, c1, xs1, rfl, hs1, hx1, hv1, hb1⟩
  have B1 := Lib.hid (below_chain B0'.out (by have := B0'.out.size; have := HRr.out; omega) hb1)
  have RX := Lib.hid (R0'.out.on hb1)
  have G1 := Lib.hid (And.intro hs1 (And.intro hx1 hv1))
  clear hb1 hs1 hx1 hv1 R0' B0'
  have lt1 := RX.out.lt
  go_wp2_with fail
  generalize hW : World.alloc w1 _ = V1
  have hn := below_new w1 (.cells #[.bool (decide (z1 < 0)), .slice A1 n1 c1] 26)
  have hbx := Bx.new w1 (decide (z1 < 0)) A1 n1 c1
  rw [hW] at hn hbx
  have BX := Lib.hid (show Ba V1 w1.heap.size (decide (z1 < 0)) A1 n1 c1 xs1 from ⟨hbx, G1.out.1.on hn⟩)
  have RX1 := Lib.hid (RX.out.on hn)
  have B2 := Lib.hid (below_chain B1.out (by have := B1.out.size; have := HRr.out; omega) hn)
  have HN := Lib.hid (show Nz xs1 ∧ val xs1 = z1.natAbs from G1.out.2)
  have ne1 : w1.heap.size ≠ r := by omega
  have ne2 : r ≠ w1.heap.size := by omega
  clear hW hn hbx RX B1 lt1 G1
  generalize w1.heap.size = m at *
  refine (HP2.out V1).mono ?_
  rintro e w2 ⟨A2, n2, c2, xs2, rfl, hs2, hx2, hv2, hb2⟩
  have B3 := Lib.hid (below_chain B2.out (by have := B2.out.size; have := HRr.out; omega) hb2)
  have RX2 := Lib.hid (RX1.out.on hb2)
  have BX2 := Lib.hid (BX.out.on hb2)
  have G2 := Lib.hid (And.intro hs2 (And.intro hx2 hv2))
  clear hb2 hs2 hx2 hv2 RX1 B2 BX
  have kb0 := BX2.out.bx.c0
  have kb1 := BX2.out.bx.c1
  have kbl := BX2.out.bx.lt
  have rlt := RX2.out.lt
  go_wp2_with fail
  generalize hW : World.alloc (World.alloc w2 _) _ = V3
  have hn3 := below_new w2 (.cells #[.bool (decide (z2 < 0)), .slice A2 n2 c2] 26)
  have hc3 := Bx.new w2 (decide (z2 < 0)) A2 n2 c2
  have hn4 := below_new (w2.alloc (.cells #[.bool (decide (z2 < 0)), .slice A2 n2 c2] 26)) (.cells #[.bool (decide (z1 < 0)), .slice A1 n1 c1, .bool (decide (z2 < 0)), .slice A2 n2 c2] 28)
  have hQ := Rb.new (q := (⟨decide (z1 < 0), A1, n1, c1, xs1, decide (z2 < 0), A2, n2, c2, xs2⟩ : RVal)) (w := w2.alloc (.cells #[.bool (decide (z2 < 0)), .slice A2 n2 c2] 26)) ⟨BX2.out.sl.on hn3, G2.out.1.on hn3⟩
  have hQ' : Rb (World.alloc (w2.alloc (.cells #[.bool (decide (z2 < 0)), .slice A2 n2 c2] 26)) (.cells #[.bool (decide (z1 < 0)), .slice A1 n1 c1, .bool (decide (z2 < 0)), .slice A2 n2 c2] 28)) (w2.heap.size + 1) (⟨decide (z1 < 0), A1, n1, c1, xs1, decide (z2 < 0), A2, n2, c2, xs2⟩ : RVal) := by simpa using hQ
  rw [hW] at hn4 hQ'
  have B4 := Lib.hid (below_chain (below_chain B3.out (by have := B3.out.size; have := HRr.out; omega) hn3) (by have := B3.out.size; have := HRr.out; simp; omega) hn4)
  have RX3 := Lib.hid ((RX2.out.on hn3).on hn4)
  have BD : Hid (Bx V3 w2.heap.size (decide (z2 < 0)) A2 n2 c2) := Lib.hid (hc3.below hn4 hc3.lt)
  have QQ := Lib.hid hQ'
  have HO := Lib.hid (And.intro (ov_res BX2.out.sl.ok HN.out.1 HN.out.2 HZ.out.1) (ov_res G2.out.1.ok G2.out.2.1 G2.out.2.2 HZ.out.2))
  have SD := Lib.hid ((G2.out.1.on hn3).on hn4)
  have rm : r < w2.heap.size := rlt
  clear hn3 hc3 hn4 hQ hQ' hW kb0 kb1 kbl rlt RX2 B3 BX2 G2 HN
  generalize w2.heap.size = d at *
  have C := ratValid_r QQ.out.sl
  rw [show RVal.o (⟨decide (z1 < 0), A1, n1, c1, xs1, decide (z2 < 0), A2, n2, c2, xs2⟩ : RVal) = some z1 from HO.out.1, show RVal.od (⟨decide (z1 < 0), A1, n1, c1, xs1, decide (z2 < 0), A2, n2, c2, xs2⟩ : RVal) = some z2 from HO.out.2, HE.out.1] at C
  refine C.mono ?_
  clear C
  rintro e w5 ⟨rfl, hb5⟩
  have B5 := Lib.hid (below_chain B4.out (by have := B4.out.size; have := HRr.out; omega) hb5)
  have RX5 := Lib.hid (RX3.out.on hb5)
  have BD5 := Lib.hid (BD.out.below hb5 BD.out.lt)
  have QQ5 := Lib.hid (QQ.out.on hb5)
  have SD5 := Lib.hid (SD.out.on hb5)
  clear hb5 B4 RX3 BD QQ SD
  have kd0 := BD5.out.c0
  have kd1 := BD5.out.c1
  go_wp2_with fail
  have C := isOne_ov (neg := decide (z2 < 0)) SD5.out
  rw [HO.out.2, oneB_some, HE.out.2] at C
  refine C.mono ?_
  clear C kd0 kd1
  rintro e w6 ⟨rfl, hb6⟩
  have B6 := Lib.hid (below_chain B5.out (by have := B5.out.size; have := HRr.out; omega) hb6)
  have RX6 := Lib.hid (RX5.out.on hb6)
  have QQ6 := Lib.hid (QQ5.out.on hb6)
  clear hb6 B5 RX5 BD5 QQ5 SD5
  have f0 := RX6.out.f 0
  have f1 := RX6.out.f 1
  have f2 := RX6.out.f 2
  have f3 := RX6.out.f 3
  have q0 := RX6.out.c0
  have q1 := RX6.out.c1
  have q2 := RX6.out.c2
  have q3 := RX6.out.c3
  simp only [RVal.nil] at q0 q1 q2 q3
  have f0 := QQ6.out.f 0
  have f1 := QQ6.out.f 1
  have f2 := QQ6.out.f 2
  have f3 := QQ6.out.f 3
  have k0 := QQ6.out.c0
  have k1 := QQ6.out.c1
  have k2 := QQ6.out.c2
  have k3 := QQ6.out.c3
  go_wp2
  generalize hU : World.setCell (World.setCell (World.setCell (World.setCell w6 _ _) _ _) _ _) _ _ = U
  have RU' := (Rb.put (q' := (⟨(decide (z1 < 0)), A1, n1, c1, xs1, (decide (z2 < 0)), A2, n2, c2, xs2⟩ : RVal)) RX6.out QQ6.out.sl)
  have RU : Rb U r (⟨(decide (z1 < 0)), A1, n1, c1, xs1, (decide (z2 < 0)), A2, n2, c2, xs2⟩ : RVal) := by rw [← hU]; exact RU'
  have HU : Below w.heap.size w U := by rw [← hU, HRr.out]; exact (below_put4 B6.out (Nat.le_refl _) _ _ _ _)
  have j0 := RU.c0
  have j1 := RU.c1
  have j2 := RU.c2
  have j3 := RU.c3
  dsimp only at j0 j1 j2 j3
  refine bodyPost_ret (v := .tuple #[.agg #[.bool (decide (z1 < 0)), .slice A1 n1 c1, .bool (decide (z2 < 0)), .slice A2 n2 c2], .int .i64 0]) (by simp [results, Try.results14, go_sem, j0, j1, j2, j3]) rfl ?_
  exact RetR.of RU HO.out.1 HO.out.2 HU
/-- What Parse hands back. -/
def rprE (l : List UInt8) : Int :=
  if prE (Lib.cut l [47]).1 ≠ 0 then prE (Lib.cut l [47]).1
  else if (Lib.cut l [47]).2.2 = false then 0
  else if prE (Lib.cut l [47]).2.1 ≠ 0 then prE (Lib.cut l [47]).2.1
  else if (rv (some (prZ (Lib.cut l [47]).1)) (some (prZ (Lib.cut l [47]).2.1))).isSome = true ∧ prZ (Lib.cut l [47]).2.1 ≠ 1 then 0 else 3
def rprN (l : List UInt8) : Int := if rprE l = 0 then prZ (Lib.cut l [47]).1 else 0
def rprD (l : List UInt8) : Int := if rprE l = 0 then (if (Lib.cut l [47]).2.2 = false then 1 else prZ (Lib.cut l [47]).2.1) else 0
theorem prZ_lt (l : List UInt8) : (prZ l).natAbs < BIG := by
  unfold prZ
  rcases prs l with _ | z
  · exact big_gt
  · exact fitZ_lt z
theorem cut_sizes (l : List UInt8) : (Lib.cut l [47]).1.length ≤ l.length ∧ (Lib.cut l [47]).2.1.length ≤ l.length := by
  unfold Lib.cut
  by_cases h : 0 ≤ Lib.index l [47]
  · rw [if_pos h]; exact ⟨by rw [List.length_take]; omega, by rw [List.length_drop]; omega⟩
  · rw [if_neg h]; exact ⟨Nat.le_refl _, Nat.zero_le _⟩
theorem parse_r (s : ByteArray) (w : World) (hs : s.size ≤ 140737488351232) : Calls Try.prog 14 #[.string s] w (RetR (rprN s.data.toList) (rprD s.data.toList) (rprE s.data.toList) w) := by
  have hc := cut_sizes s.data.toList
  have hsz : s.data.toList.length = s.size := Array.length_toList
  have HC := Lib.hid (fun w => cut_slash s w hs)
  have P : ∀ l : List UInt8, l.length ≤ s.data.toList.length → Hid (∀ w : World, Calls Try.prog 36 #[.string ⟨l.toArray⟩] w (RetIE (prZ l) (prE l) w)) := fun l hl => Lib.hid fun w => by
    exact parse_ov ⟨l.toArray⟩ w (by show l.toArray.size ≤ _; rw [List.size_toArray]; omega)
  have P1 := P _ hc.1
  have P2 := P _ hc.2
  unfold rprN rprD
  have k1 := prZ_lt (Lib.cut s.data.toList [47]).1
  have k2 := prZ_lt (Lib.cut s.data.toList [47]).2.1
  by_cases h1 : prE (Lib.cut s.data.toList [47]).1 ≠ 0
  · have e : rprE s.data.toList = prE (Lib.cut s.data.toList [47]).1 := if_pos h1
    rw [e, if_neg h1, if_neg h1]
    exact parse_e1 s _ _ w _ _ _ HC P1 h1
  · have h1' : prE (Lib.cut s.data.toList [47]).1 = 0 := Decidable.of_not_not h1
    rcases hf : (Lib.cut s.data.toList [47]).2.2 with _ | _
    · have e : rprE s.data.toList = 0 := by unfold rprE; rw [if_neg h1, if_pos hf]
      rw [e, if_pos rfl, if_pos rfl, if_pos rfl]
      rw [hf] at HC
      exact parse_n s _ _ w _ _ HC P1 h1' k1
    · rw [hf] at HC
      by_cases h2 : prE (Lib.cut s.data.toList [47]).2.1 ≠ 0
      · have e : rprE s.data.toList = prE (Lib.cut s.data.toList [47]).2.1 := by unfold rprE; rw [if_neg h1, hf, if_neg (by decide), if_pos h2]
        rw [e, if_neg h2, if_neg h2]
        exact parse_e2 s _ _ w _ _ _ _ HC P1 P2 h1' h2
      · have h2' : prE (Lib.cut s.data.toList [47]).2.1 = 0 := Decidable.of_not_not h2
        have e0 : rprE s.data.toList = if (rv (some (prZ (Lib.cut s.data.toList [47]).1)) (some (prZ (Lib.cut s.data.toList [47]).2.1))).isSome = true ∧ prZ (Lib.cut s.data.toList [47]).2.1 ≠ 1 then 0 else 3 := by
          unfold rprE; rw [if_neg h1, hf, if_neg (by decide), if_neg h2]
        rcases hv : (rv (some (prZ (Lib.cut s.data.toList [47]).1)) (some (prZ (Lib.cut s.data.toList [47]).2.1))).isSome with _ | _
        · rw [hv] at e0
          rw [if_neg (by simp)] at e0
          rw [e0, if_neg (by decide), if_neg (by decide)]
          exact parse_b1 s _ _ w _ _ _ _ HC P1 P2 h1' h2' k1 k2 hv
        · by_cases ho : prZ (Lib.cut s.data.toList [47]).2.1 = 1
          · rw [if_neg (by simp [ho])] at e0
            rw [e0, if_neg (by decide), if_neg (by decide)]
            exact parse_b2 s _ _ w _ _ _ _ HC P1 P2 h1' h2' k1 k2 hv (decide_eq_true ho)
          · rw [if_pos ⟨hv, ho⟩] at e0
            rw [e0, if_pos rfl, if_pos rfl, if_neg (by decide)]
            exact parse_ok s _ _ w _ _ _ _ HC P1 P2 h1' h2' k1 k2 hv (decide_eq_false ho)
end Go.Proofs.Ytfodjaeknhomkaa
