/-
  Stage 2: the laws' valid.
-/
import Derived.Test.YtlibjampolcbhaaGreatRatZ
import Derived.Test.YtlibjampolcbhaaGreatRatG
namespace Go.Proofs.YtlibjampolcbhaaGreat
open Go.RowKit
def vsh (q : RVal) (L : Nat) : Bool := decide (q.n ≤ L) && decide (q.nd ≤ L)
def vva (q : RVal) : Bool := (rv q.o q.od).isSome
theorem three_rats (a b c : RVal) (w W : World) (h1 : a.In w) (h2 : b.In w) (h3 : c.In w) (hW : ((w.alloc (.cells #[.bool a.g, .slice a.A a.n a.c, .bool a.gd, .slice a.Ad a.nd a.cd] 27)).alloc (.cells #[.bool b.g, .slice b.A b.n b.c, .bool b.gd, .slice b.Ad b.nd b.cd] 27)).alloc (.cells #[.bool c.g, .slice c.A c.n c.c, .bool c.gd, .slice c.Ad c.nd c.cd] 27) = W) :
    Below w.heap.size w W ∧ Rb W w.heap.size a ∧ Rb W (w.heap.size + 1) b ∧ Rb W (w.heap.size + 1 + 1) c := by
  obtain ⟨hb, x1, x2⟩ := two_rats a b w _ h1 h2 rfl
  have x3 := Rb.new (h3.on hb)
  have hn := below_new ((w.alloc (.cells #[.bool a.g, .slice a.A a.n a.c, .bool a.gd, .slice a.Ad a.nd a.cd] 27)).alloc (.cells #[.bool b.g, .slice b.A b.n b.c, .bool b.gd, .slice b.Ad b.nd b.cd] 27)) (.cells #[.bool c.g, .slice c.A c.n c.c, .bool c.gd, .slice c.Ad c.nd c.cd] 27)
  rw [hW] at hn x3
  exact ⟨below_chain hb hb.size hn, x1.on hn, x2.on hn, by simpa using x3⟩
set_option maxHeartbeats 1000000 in
theorem val_1 (a b c : RVal) (L : Nat) (w : World) (h1 : a.In w) (h2 : b.In w) (h3 : c.In w) (sa : vsh a L = false) :
    Calls Tryz.prog 46 #[.agg #[.bool a.g, .slice a.A a.n a.c, .bool a.gd, .slice a.Ad a.nd a.cd], .agg #[.bool b.g, .slice b.A b.n b.c, .bool b.gd, .slice b.Ad b.nd b.cd], .agg #[.bool c.g, .slice c.A c.n c.c, .bool c.gd, .slice c.Ad c.nd c.cd], .int .i64 (L : Int)] w fun e w' => e = .returned (.bool false) ∧ Below w.heap.size w w' := by
  have Hsa := Lib.hid sa
  have HS := Lib.hid (And.intro h1 (And.intro h2 h3))
  clear h1 h2 h3 sa
  obtain ⟨l, hl⟩ : ∃ l : Int, l = (L : Int) := ⟨_, rfl⟩
  have HL := Lib.hid hl
  rw [← hl]
  clear hl
  go_enter Tryz.func46, Tryz.ntmps46
  go_wp2_with fail
  generalize hW : World.alloc (World.alloc (World.alloc w _) _) _ = V
  obtain ⟨hb, ra, rb, rc⟩ := three_rats a b c w V HS.out.1 HS.out.2.1 HS.out.2.2 hW
  generalize hr : w.heap.size = r at *
  have HRr := Lib.hid hr
  have B0 := Lib.hid hb
  have X0 := Lib.hid (And.intro ra (And.intro rb rc))
  clear hW hb hr ra rb rc
  have k0 := X0.out.1.c0
  have k1 := X0.out.1.c1
  have k2 := X0.out.1.c2
  have k3 := X0.out.1.c3
  go_wp2_with fail
  have C := rshort2 a L V
  rw [← HL.out, show (decide (a.n ≤ L) && decide (a.nd ≤ L)) = false from Hsa.out] at C
  refine C.mono ?_
  clear C k0 k1 k2 k3
  rintro e w1 ⟨rfl, hb⟩
  have B1 := Lib.hid (below_chain B0.out (by have := B0.out.size; have := HRr.out; omega) hb)
  have X1 := Lib.hid (show Rb w1 r a ∧ Rb w1 (r + 1) b ∧ Rb w1 (r + 1 + 1) c from ⟨X0.out.1.on hb, X0.out.2.1.on hb, X0.out.2.2.on hb⟩)
  clear hb B0 X0
  go_wp2
  go_ret
  exact ⟨rfl, by rw [HRr.out]; exact B1.out⟩
set_option maxHeartbeats 1000000 in
theorem val_2 (a b c : RVal) (L : Nat) (w : World) (h1 : a.In w) (h2 : b.In w) (h3 : c.In w) (sa : vsh a L = true) (sb : vsh b L = false) :
    Calls Tryz.prog 46 #[.agg #[.bool a.g, .slice a.A a.n a.c, .bool a.gd, .slice a.Ad a.nd a.cd], .agg #[.bool b.g, .slice b.A b.n b.c, .bool b.gd, .slice b.Ad b.nd b.cd], .agg #[.bool c.g, .slice c.A c.n c.c, .bool c.gd, .slice c.Ad c.nd c.cd], .int .i64 (L : Int)] w fun e w' => e = .returned (.bool false) ∧ Below w.heap.size w w' := by
  have Hsa := Lib.hid sa
  have Hsb := Lib.hid sb
  have HS := Lib.hid (And.intro h1 (And.intro h2 h3))
  clear h1 h2 h3 sa sb
  obtain ⟨l, hl⟩ : ∃ l : Int, l = (L : Int) := ⟨_, rfl⟩
  have HL := Lib.hid hl
  rw [← hl]
  clear hl
  go_enter Tryz.func46, Tryz.ntmps46
  go_wp2_with fail
  generalize hW : World.alloc (World.alloc (World.alloc w _) _) _ = V
  obtain ⟨hb, ra, rb, rc⟩ := three_rats a b c w V HS.out.1 HS.out.2.1 HS.out.2.2 hW
  generalize hr : w.heap.size = r at *
  have HRr := Lib.hid hr
  have B0 := Lib.hid hb
  have X0 := Lib.hid (And.intro ra (And.intro rb rc))
  clear hW hb hr ra rb rc
  have k0 := X0.out.1.c0
  have k1 := X0.out.1.c1
  have k2 := X0.out.1.c2
  have k3 := X0.out.1.c3
  go_wp2_with fail
  have C := rshort2 a L V
  rw [← HL.out, show (decide (a.n ≤ L) && decide (a.nd ≤ L)) = true from Hsa.out] at C
  refine C.mono ?_
  clear C k0 k1 k2 k3
  rintro e w1 ⟨rfl, hb⟩
  have B1 := Lib.hid (below_chain B0.out (by have := B0.out.size; have := HRr.out; omega) hb)
  have X1 := Lib.hid (show Rb w1 r a ∧ Rb w1 (r + 1) b ∧ Rb w1 (r + 1 + 1) c from ⟨X0.out.1.on hb, X0.out.2.1.on hb, X0.out.2.2.on hb⟩)
  clear hb B0 X0
  have k0 := X1.out.2.1.c0
  have k1 := X1.out.2.1.c1
  have k2 := X1.out.2.1.c2
  have k3 := X1.out.2.1.c3
  go_wp2_with fail
  have C := rshort2 b L w1
  rw [← HL.out, show (decide (b.n ≤ L) && decide (b.nd ≤ L)) = false from Hsb.out] at C
  refine C.mono ?_
  clear C k0 k1 k2 k3
  rintro e w2 ⟨rfl, hb⟩
  have B2 := Lib.hid (below_chain B1.out (by have := B1.out.size; have := HRr.out; omega) hb)
  have X2 := Lib.hid (show Rb w2 r a ∧ Rb w2 (r + 1) b ∧ Rb w2 (r + 1 + 1) c from ⟨X1.out.1.on hb, X1.out.2.1.on hb, X1.out.2.2.on hb⟩)
  clear hb B1 X1
  go_wp2
  go_ret
  exact ⟨rfl, by rw [HRr.out]; exact B2.out⟩
set_option maxHeartbeats 1000000 in
theorem val_3 (a b c : RVal) (L : Nat) (w : World) (h1 : a.In w) (h2 : b.In w) (h3 : c.In w) (sa : vsh a L = true) (sb : vsh b L = true) (sc : vsh c L = false) :
    Calls Tryz.prog 46 #[.agg #[.bool a.g, .slice a.A a.n a.c, .bool a.gd, .slice a.Ad a.nd a.cd], .agg #[.bool b.g, .slice b.A b.n b.c, .bool b.gd, .slice b.Ad b.nd b.cd], .agg #[.bool c.g, .slice c.A c.n c.c, .bool c.gd, .slice c.Ad c.nd c.cd], .int .i64 (L : Int)] w fun e w' => e = .returned (.bool false) ∧ Below w.heap.size w w' := by
  have Hsa := Lib.hid sa
  have Hsb := Lib.hid sb
  have Hsc := Lib.hid sc
  have HS := Lib.hid (And.intro h1 (And.intro h2 h3))
  clear h1 h2 h3 sa sb sc
  obtain ⟨l, hl⟩ : ∃ l : Int, l = (L : Int) := ⟨_, rfl⟩
  have HL := Lib.hid hl
  rw [← hl]
  clear hl
  go_enter Tryz.func46, Tryz.ntmps46
  go_wp2_with fail
  generalize hW : World.alloc (World.alloc (World.alloc w _) _) _ = V
  obtain ⟨hb, ra, rb, rc⟩ := three_rats a b c w V HS.out.1 HS.out.2.1 HS.out.2.2 hW
  generalize hr : w.heap.size = r at *
  have HRr := Lib.hid hr
  have B0 := Lib.hid hb
  have X0 := Lib.hid (And.intro ra (And.intro rb rc))
  clear hW hb hr ra rb rc
  have k0 := X0.out.1.c0
  have k1 := X0.out.1.c1
  have k2 := X0.out.1.c2
  have k3 := X0.out.1.c3
  go_wp2_with fail
  have C := rshort2 a L V
  rw [← HL.out, show (decide (a.n ≤ L) && decide (a.nd ≤ L)) = true from Hsa.out] at C
  refine C.mono ?_
  clear C k0 k1 k2 k3
  rintro e w1 ⟨rfl, hb⟩
  have B1 := Lib.hid (below_chain B0.out (by have := B0.out.size; have := HRr.out; omega) hb)
  have X1 := Lib.hid (show Rb w1 r a ∧ Rb w1 (r + 1) b ∧ Rb w1 (r + 1 + 1) c from ⟨X0.out.1.on hb, X0.out.2.1.on hb, X0.out.2.2.on hb⟩)
  clear hb B0 X0
  have k0 := X1.out.2.1.c0
  have k1 := X1.out.2.1.c1
  have k2 := X1.out.2.1.c2
  have k3 := X1.out.2.1.c3
  go_wp2_with fail
  have C := rshort2 b L w1
  rw [← HL.out, show (decide (b.n ≤ L) && decide (b.nd ≤ L)) = true from Hsb.out] at C
  refine C.mono ?_
  clear C k0 k1 k2 k3
  rintro e w2 ⟨rfl, hb⟩
  have B2 := Lib.hid (below_chain B1.out (by have := B1.out.size; have := HRr.out; omega) hb)
  have X2 := Lib.hid (show Rb w2 r a ∧ Rb w2 (r + 1) b ∧ Rb w2 (r + 1 + 1) c from ⟨X1.out.1.on hb, X1.out.2.1.on hb, X1.out.2.2.on hb⟩)
  clear hb B1 X1
  have k0 := X2.out.2.2.c0
  have k1 := X2.out.2.2.c1
  have k2 := X2.out.2.2.c2
  have k3 := X2.out.2.2.c3
  go_wp2_with fail
  have C := rshort2 c L w2
  rw [← HL.out, show (decide (c.n ≤ L) && decide (c.nd ≤ L)) = false from Hsc.out] at C
  refine C.mono ?_
  clear C k0 k1 k2 k3
  rintro e w3 ⟨rfl, hb⟩
  have B3 := Lib.hid (below_chain B2.out (by have := B2.out.size; have := HRr.out; omega) hb)
  have X3 := Lib.hid (show Rb w3 r a ∧ Rb w3 (r + 1) b ∧ Rb w3 (r + 1 + 1) c from ⟨X2.out.1.on hb, X2.out.2.1.on hb, X2.out.2.2.on hb⟩)
  clear hb B2 X2
  go_wp2
  go_ret
  exact ⟨rfl, by rw [HRr.out]; exact B3.out⟩
set_option maxHeartbeats 1000000 in
theorem val_4 (a b c : RVal) (L : Nat) (w : World) (h1 : a.In w) (h2 : b.In w) (h3 : c.In w) (y z : Bool) (sa : vsh a L = true) (sb : vsh b L = true) (sc : vsh c L = true) (va : vva a = false) (vb : vva b = y) (vc : vva c = z) :
    Calls Tryz.prog 46 #[.agg #[.bool a.g, .slice a.A a.n a.c, .bool a.gd, .slice a.Ad a.nd a.cd], .agg #[.bool b.g, .slice b.A b.n b.c, .bool b.gd, .slice b.Ad b.nd b.cd], .agg #[.bool c.g, .slice c.A c.n c.c, .bool c.gd, .slice c.Ad c.nd c.cd], .int .i64 (L : Int)] w fun e w' => e = .returned (.bool false) ∧ Below w.heap.size w w' := by
  have Hsa := Lib.hid sa
  have Hsb := Lib.hid sb
  have Hsc := Lib.hid sc
  have Hva := Lib.hid va
  have Hvb := Lib.hid vb
  have Hvc := Lib.hid vc
  have HS := Lib.hid (And.intro h1 (And.intro h2 h3))
  clear h1 h2 h3 sa sb sc va vb vc
  obtain ⟨l, hl⟩ : ∃ l : Int, l = (L : Int) := ⟨_, rfl⟩
  have HL := Lib.hid hl
  rw [← hl]
  clear hl
  go_enter Tryz.func46, Tryz.ntmps46
  go_wp2_with fail
  generalize hW : World.alloc (World.alloc (World.alloc w _) _) _ = V
  obtain ⟨hb, ra, rb, rc⟩ := three_rats a b c w V HS.out.1 HS.out.2.1 HS.out.2.2 hW
  generalize hr : w.heap.size = r at *
  have HRr := Lib.hid hr
  have B0 := Lib.hid hb
  have X0 := Lib.hid (And.intro ra (And.intro rb rc))
  clear hW hb hr ra rb rc
  have k0 := X0.out.1.c0
  have k1 := X0.out.1.c1
  have k2 := X0.out.1.c2
  have k3 := X0.out.1.c3
  go_wp2_with fail
  have C := rshort2 a L V
  rw [← HL.out, show (decide (a.n ≤ L) && decide (a.nd ≤ L)) = true from Hsa.out] at C
  refine C.mono ?_
  clear C k0 k1 k2 k3
  rintro e w1 ⟨rfl, hb⟩
  have B1 := Lib.hid (below_chain B0.out (by have := B0.out.size; have := HRr.out; omega) hb)
  have X1 := Lib.hid (show Rb w1 r a ∧ Rb w1 (r + 1) b ∧ Rb w1 (r + 1 + 1) c from ⟨X0.out.1.on hb, X0.out.2.1.on hb, X0.out.2.2.on hb⟩)
  clear hb B0 X0
  have k0 := X1.out.2.1.c0
  have k1 := X1.out.2.1.c1
  have k2 := X1.out.2.1.c2
  have k3 := X1.out.2.1.c3
  go_wp2_with fail
  have C := rshort2 b L w1
  rw [← HL.out, show (decide (b.n ≤ L) && decide (b.nd ≤ L)) = true from Hsb.out] at C
  refine C.mono ?_
  clear C k0 k1 k2 k3
  rintro e w2 ⟨rfl, hb⟩
  have B2 := Lib.hid (below_chain B1.out (by have := B1.out.size; have := HRr.out; omega) hb)
  have X2 := Lib.hid (show Rb w2 r a ∧ Rb w2 (r + 1) b ∧ Rb w2 (r + 1 + 1) c from ⟨X1.out.1.on hb, X1.out.2.1.on hb, X1.out.2.2.on hb⟩)
  clear hb B1 X1
  have k0 := X2.out.2.2.c0
  have k1 := X2.out.2.2.c1
  have k2 := X2.out.2.2.c2
  have k3 := X2.out.2.2.c3
  go_wp2_with fail
  have C := rshort2 c L w2
  rw [← HL.out, show (decide (c.n ≤ L) && decide (c.nd ≤ L)) = true from Hsc.out] at C
  refine C.mono ?_
  clear C k0 k1 k2 k3
  rintro e w3 ⟨rfl, hb⟩
  have B3 := Lib.hid (below_chain B2.out (by have := B2.out.size; have := HRr.out; omega) hb)
  have X3 := Lib.hid (show Rb w3 r a ∧ Rb w3 (r + 1) b ∧ Rb w3 (r + 1 + 1) c from ⟨X2.out.1.on hb, X2.out.2.1.on hb, X2.out.2.2.on hb⟩)
  clear hb B2 X2
  have k0 := X3.out.1.c0
  have k1 := X3.out.1.c1
  have k2 := X3.out.1.c2
  have k3 := X3.out.1.c3
  go_wp2_with fail
  have C := rvalid2 X3.out.1.sl
  rw [show (rv a.o a.od).isSome = false from Hva.out] at C
  refine C.mono ?_
  clear C k0 k1 k2 k3
  rintro e w4 ⟨rfl, hb⟩
  have B4 := Lib.hid (below_chain B3.out (by have := B3.out.size; have := HRr.out; omega) hb)
  have X4 := Lib.hid (show Rb w4 r a ∧ Rb w4 (r + 1) b ∧ Rb w4 (r + 1 + 1) c from ⟨X3.out.1.on hb, X3.out.2.1.on hb, X3.out.2.2.on hb⟩)
  clear hb B3 X3
  have k0 := X4.out.2.1.c0
  have k1 := X4.out.2.1.c1
  have k2 := X4.out.2.1.c2
  have k3 := X4.out.2.1.c3
  go_wp2_with fail
  have C := rvalid2 X4.out.2.1.sl
  rw [show (rv b.o b.od).isSome = y from Hvb.out] at C
  refine C.mono ?_
  clear C k0 k1 k2 k3
  rintro e w5 ⟨rfl, hb⟩
  have B5 := Lib.hid (below_chain B4.out (by have := B4.out.size; have := HRr.out; omega) hb)
  have X5 := Lib.hid (show Rb w5 r a ∧ Rb w5 (r + 1) b ∧ Rb w5 (r + 1 + 1) c from ⟨X4.out.1.on hb, X4.out.2.1.on hb, X4.out.2.2.on hb⟩)
  clear hb B4 X4
  have k0 := X5.out.2.2.c0
  have k1 := X5.out.2.2.c1
  have k2 := X5.out.2.2.c2
  have k3 := X5.out.2.2.c3
  go_wp2_with fail
  have C := rvalid2 X5.out.2.2.sl
  rw [show (rv c.o c.od).isSome = z from Hvc.out] at C
  refine C.mono ?_
  clear C k0 k1 k2 k3
  rintro e w6 ⟨rfl, hb⟩
  have B6 := Lib.hid (below_chain B5.out (by have := B5.out.size; have := HRr.out; omega) hb)
  have X6 := Lib.hid (show Rb w6 r a ∧ Rb w6 (r + 1) b ∧ Rb w6 (r + 1 + 1) c from ⟨X5.out.1.on hb, X5.out.2.1.on hb, X5.out.2.2.on hb⟩)
  clear hb B5 X5
  go_wp2
  go_ret
  exact ⟨rfl, by rw [HRr.out]; exact B6.out⟩
set_option maxHeartbeats 1000000 in
theorem val_5 (a b c : RVal) (L : Nat) (w : World) (h1 : a.In w) (h2 : b.In w) (h3 : c.In w) (z : Bool) (sa : vsh a L = true) (sb : vsh b L = true) (sc : vsh c L = true) (va : vva a = true) (vb : vva b = false) (vc : vva c = z) :
    Calls Tryz.prog 46 #[.agg #[.bool a.g, .slice a.A a.n a.c, .bool a.gd, .slice a.Ad a.nd a.cd], .agg #[.bool b.g, .slice b.A b.n b.c, .bool b.gd, .slice b.Ad b.nd b.cd], .agg #[.bool c.g, .slice c.A c.n c.c, .bool c.gd, .slice c.Ad c.nd c.cd], .int .i64 (L : Int)] w fun e w' => e = .returned (.bool false) ∧ Below w.heap.size w w' := by
  have Hsa := Lib.hid sa
  have Hsb := Lib.hid sb
  have Hsc := Lib.hid sc
  have Hva := Lib.hid va
  have Hvb := Lib.hid vb
  have Hvc := Lib.hid vc
  have HS := Lib.hid (And.intro h1 (And.intro h2 h3))
  clear h1 h2 h3 sa sb sc va vb vc
  obtain ⟨l, hl⟩ : ∃ l : Int, l = (L : Int) := ⟨_, rfl⟩
  have HL := Lib.hid hl
  rw [← hl]
  clear hl
  go_enter Tryz.func46, Tryz.ntmps46
  go_wp2_with fail
  generalize hW : World.alloc (World.alloc (World.alloc w _) _) _ = V
  obtain ⟨hb, ra, rb, rc⟩ := three_rats a b c w V HS.out.1 HS.out.2.1 HS.out.2.2 hW
  generalize hr : w.heap.size = r at *
  have HRr := Lib.hid hr
  have B0 := Lib.hid hb
  have X0 := Lib.hid (And.intro ra (And.intro rb rc))
  clear hW hb hr ra rb rc
  have k0 := X0.out.1.c0
  have k1 := X0.out.1.c1
  have k2 := X0.out.1.c2
  have k3 := X0.out.1.c3
  go_wp2_with fail
  have C := rshort2 a L V
  rw [← HL.out, show (decide (a.n ≤ L) && decide (a.nd ≤ L)) = true from Hsa.out] at C
  refine C.mono ?_
  clear C k0 k1 k2 k3
  rintro e w1 ⟨rfl, hb⟩
  have B1 := Lib.hid (below_chain B0.out (by have := B0.out.size; have := HRr.out; omega) hb)
  have X1 := Lib.hid (show Rb w1 r a ∧ Rb w1 (r + 1) b ∧ Rb w1 (r + 1 + 1) c from ⟨X0.out.1.on hb, X0.out.2.1.on hb, X0.out.2.2.on hb⟩)
  clear hb B0 X0
  have k0 := X1.out.2.1.c0
  have k1 := X1.out.2.1.c1
  have k2 := X1.out.2.1.c2
  have k3 := X1.out.2.1.c3
  go_wp2_with fail
  have C := rshort2 b L w1
  rw [← HL.out, show (decide (b.n ≤ L) && decide (b.nd ≤ L)) = true from Hsb.out] at C
  refine C.mono ?_
  clear C k0 k1 k2 k3
  rintro e w2 ⟨rfl, hb⟩
  have B2 := Lib.hid (below_chain B1.out (by have := B1.out.size; have := HRr.out; omega) hb)
  have X2 := Lib.hid (show Rb w2 r a ∧ Rb w2 (r + 1) b ∧ Rb w2 (r + 1 + 1) c from ⟨X1.out.1.on hb, X1.out.2.1.on hb, X1.out.2.2.on hb⟩)
  clear hb B1 X1
  have k0 := X2.out.2.2.c0
  have k1 := X2.out.2.2.c1
  have k2 := X2.out.2.2.c2
  have k3 := X2.out.2.2.c3
  go_wp2_with fail
  have C := rshort2 c L w2
  rw [← HL.out, show (decide (c.n ≤ L) && decide (c.nd ≤ L)) = true from Hsc.out] at C
  refine C.mono ?_
  clear C k0 k1 k2 k3
  rintro e w3 ⟨rfl, hb⟩
  have B3 := Lib.hid (below_chain B2.out (by have := B2.out.size; have := HRr.out; omega) hb)
  have X3 := Lib.hid (show Rb w3 r a ∧ Rb w3 (r + 1) b ∧ Rb w3 (r + 1 + 1) c from ⟨X2.out.1.on hb, X2.out.2.1.on hb, X2.out.2.2.on hb⟩)
  clear hb B2 X2
  have k0 := X3.out.1.c0
  have k1 := X3.out.1.c1
  have k2 := X3.out.1.c2
  have k3 := X3.out.1.c3
  go_wp2_with fail
  have C := rvalid2 X3.out.1.sl
  rw [show (rv a.o a.od).isSome = true from Hva.out] at C
  refine C.mono ?_
  clear C k0 k1 k2 k3
  rintro e w4 ⟨rfl, hb⟩
  have B4 := Lib.hid (below_chain B3.out (by have := B3.out.size; have := HRr.out; omega) hb)
  have X4 := Lib.hid (show Rb w4 r a ∧ Rb w4 (r + 1) b ∧ Rb w4 (r + 1 + 1) c from ⟨X3.out.1.on hb, X3.out.2.1.on hb, X3.out.2.2.on hb⟩)
  clear hb B3 X3
  have k0 := X4.out.2.1.c0
  have k1 := X4.out.2.1.c1
  have k2 := X4.out.2.1.c2
  have k3 := X4.out.2.1.c3
  go_wp2_with fail
  have C := rvalid2 X4.out.2.1.sl
  rw [show (rv b.o b.od).isSome = false from Hvb.out] at C
  refine C.mono ?_
  clear C k0 k1 k2 k3
  rintro e w5 ⟨rfl, hb⟩
  have B5 := Lib.hid (below_chain B4.out (by have := B4.out.size; have := HRr.out; omega) hb)
  have X5 := Lib.hid (show Rb w5 r a ∧ Rb w5 (r + 1) b ∧ Rb w5 (r + 1 + 1) c from ⟨X4.out.1.on hb, X4.out.2.1.on hb, X4.out.2.2.on hb⟩)
  clear hb B4 X4
  have k0 := X5.out.2.2.c0
  have k1 := X5.out.2.2.c1
  have k2 := X5.out.2.2.c2
  have k3 := X5.out.2.2.c3
  go_wp2_with fail
  have C := rvalid2 X5.out.2.2.sl
  rw [show (rv c.o c.od).isSome = z from Hvc.out] at C
  refine C.mono ?_
  clear C k0 k1 k2 k3
  rintro e w6 ⟨rfl, hb⟩
  have B6 := Lib.hid (below_chain B5.out (by have := B5.out.size; have := HRr.out; omega) hb)
  have X6 := Lib.hid (show Rb w6 r a ∧ Rb w6 (r + 1) b ∧ Rb w6 (r + 1 + 1) c from ⟨X5.out.1.on hb, X5.out.2.1.on hb, X5.out.2.2.on hb⟩)
  clear hb B5 X5
  go_wp2
  go_ret
  exact ⟨rfl, by rw [HRr.out]; exact B6.out⟩
set_option maxHeartbeats 1000000 in
theorem val_6 (a b c : RVal) (L : Nat) (w : World) (h1 : a.In w) (h2 : b.In w) (h3 : c.In w) (z : Bool) (sa : vsh a L = true) (sb : vsh b L = true) (sc : vsh c L = true) (va : vva a = true) (vb : vva b = true) (vc : vva c = z) :
    Calls Tryz.prog 46 #[.agg #[.bool a.g, .slice a.A a.n a.c, .bool a.gd, .slice a.Ad a.nd a.cd], .agg #[.bool b.g, .slice b.A b.n b.c, .bool b.gd, .slice b.Ad b.nd b.cd], .agg #[.bool c.g, .slice c.A c.n c.c, .bool c.gd, .slice c.Ad c.nd c.cd], .int .i64 (L : Int)] w fun e w' => e = .returned (.bool z) ∧ Below w.heap.size w w' := by
  have Hsa := Lib.hid sa
  have Hsb := Lib.hid sb
  have Hsc := Lib.hid sc
  have Hva := Lib.hid va
  have Hvb := Lib.hid vb
  have Hvc := Lib.hid vc
  have HS := Lib.hid (And.intro h1 (And.intro h2 h3))
  clear h1 h2 h3 sa sb sc va vb vc
  obtain ⟨l, hl⟩ : ∃ l : Int, l = (L : Int) := ⟨_, rfl⟩
  have HL := Lib.hid hl
  rw [← hl]
  clear hl
  go_enter Tryz.func46, Tryz.ntmps46
  go_wp2_with fail
  generalize hW : World.alloc (World.alloc (World.alloc w _) _) _ = V
  obtain ⟨hb, ra, rb, rc⟩ := three_rats a b c w V HS.out.1 HS.out.2.1 HS.out.2.2 hW
  generalize hr : w.heap.size = r at *
  have HRr := Lib.hid hr
  have B0 := Lib.hid hb
  have X0 := Lib.hid (And.intro ra (And.intro rb rc))
  clear hW hb hr ra rb rc
  have k0 := X0.out.1.c0
  have k1 := X0.out.1.c1
  have k2 := X0.out.1.c2
  have k3 := X0.out.1.c3
  go_wp2_with fail
  have C := rshort2 a L V
  rw [← HL.out, show (decide (a.n ≤ L) && decide (a.nd ≤ L)) = true from Hsa.out] at C
  refine C.mono ?_
  clear C k0 k1 k2 k3
  rintro e w1 ⟨rfl, hb⟩
  have B1 := Lib.hid (below_chain B0.out (by have := B0.out.size; have := HRr.out; omega) hb)
  have X1 := Lib.hid (show Rb w1 r a ∧ Rb w1 (r + 1) b ∧ Rb w1 (r + 1 + 1) c from ⟨X0.out.1.on hb, X0.out.2.1.on hb, X0.out.2.2.on hb⟩)
  clear hb B0 X0
  have k0 := X1.out.2.1.c0
  have k1 := X1.out.2.1.c1
  have k2 := X1.out.2.1.c2
  have k3 := X1.out.2.1.c3
  go_wp2_with fail
  have C := rshort2 b L w1
  rw [← HL.out, show (decide (b.n ≤ L) && decide (b.nd ≤ L)) = true from Hsb.out] at C
  refine C.mono ?_
  clear C k0 k1 k2 k3
  rintro e w2 ⟨rfl, hb⟩
  have B2 := Lib.hid (below_chain B1.out (by have := B1.out.size; have := HRr.out; omega) hb)
  have X2 := Lib.hid (show Rb w2 r a ∧ Rb w2 (r + 1) b ∧ Rb w2 (r + 1 + 1) c from ⟨X1.out.1.on hb, X1.out.2.1.on hb, X1.out.2.2.on hb⟩)
  clear hb B1 X1
  have k0 := X2.out.2.2.c0
  have k1 := X2.out.2.2.c1
  have k2 := X2.out.2.2.c2
  have k3 := X2.out.2.2.c3
  go_wp2_with fail
  have C := rshort2 c L w2
  rw [← HL.out, show (decide (c.n ≤ L) && decide (c.nd ≤ L)) = true from Hsc.out] at C
  refine C.mono ?_
  clear C k0 k1 k2 k3
  rintro e w3 ⟨rfl, hb⟩
  have B3 := Lib.hid (below_chain B2.out (by have := B2.out.size; have := HRr.out; omega) hb)
  have X3 := Lib.hid (show Rb w3 r a ∧ Rb w3 (r + 1) b ∧ Rb w3 (r + 1 + 1) c from ⟨X2.out.1.on hb, X2.out.2.1.on hb, X2.out.2.2.on hb⟩)
  clear hb B2 X2
  have k0 := X3.out.1.c0
  have k1 := X3.out.1.c1
  have k2 := X3.out.1.c2
  have k3 := X3.out.1.c3
  go_wp2_with fail
  have C := rvalid2 X3.out.1.sl
  rw [show (rv a.o a.od).isSome = true from Hva.out] at C
  refine C.mono ?_
  clear C k0 k1 k2 k3
  rintro e w4 ⟨rfl, hb⟩
  have B4 := Lib.hid (below_chain B3.out (by have := B3.out.size; have := HRr.out; omega) hb)
  have X4 := Lib.hid (show Rb w4 r a ∧ Rb w4 (r + 1) b ∧ Rb w4 (r + 1 + 1) c from ⟨X3.out.1.on hb, X3.out.2.1.on hb, X3.out.2.2.on hb⟩)
  clear hb B3 X3
  have k0 := X4.out.2.1.c0
  have k1 := X4.out.2.1.c1
  have k2 := X4.out.2.1.c2
  have k3 := X4.out.2.1.c3
  go_wp2_with fail
  have C := rvalid2 X4.out.2.1.sl
  rw [show (rv b.o b.od).isSome = true from Hvb.out] at C
  refine C.mono ?_
  clear C k0 k1 k2 k3
  rintro e w5 ⟨rfl, hb⟩
  have B5 := Lib.hid (below_chain B4.out (by have := B4.out.size; have := HRr.out; omega) hb)
  have X5 := Lib.hid (show Rb w5 r a ∧ Rb w5 (r + 1) b ∧ Rb w5 (r + 1 + 1) c from ⟨X4.out.1.on hb, X4.out.2.1.on hb, X4.out.2.2.on hb⟩)
  clear hb B4 X4
  have k0 := X5.out.2.2.c0
  have k1 := X5.out.2.2.c1
  have k2 := X5.out.2.2.c2
  have k3 := X5.out.2.2.c3
  go_wp2_with fail
  have C := rvalid2 X5.out.2.2.sl
  rw [show (rv c.o c.od).isSome = z from Hvc.out] at C
  refine C.mono ?_
  clear C k0 k1 k2 k3
  rintro e w6 ⟨rfl, hb⟩
  have B6 := Lib.hid (below_chain B5.out (by have := B5.out.size; have := HRr.out; omega) hb)
  have X6 := Lib.hid (show Rb w6 r a ∧ Rb w6 (r + 1) b ∧ Rb w6 (r + 1 + 1) c from ⟨X5.out.1.on hb, X5.out.2.1.on hb, X5.out.2.2.on hb⟩)
  clear hb B5 X5
  go_wp2
  go_ret
  exact ⟨rfl, by rw [HRr.out]; exact B6.out⟩
def vok (a b c : RVal) (L : Nat) : Bool := (vsh a L && vsh b L && vsh c L) && (vva a && vva b && vva c)
theorem val_any (a b c : RVal) (L : Nat) (w : World) (h1 : a.In w) (h2 : b.In w) (h3 : c.In w) :
    Calls Tryz.prog 46 #[.agg #[.bool a.g, .slice a.A a.n a.c, .bool a.gd, .slice a.Ad a.nd a.cd], .agg #[.bool b.g, .slice b.A b.n b.c, .bool b.gd, .slice b.Ad b.nd b.cd], .agg #[.bool c.g, .slice c.A c.n c.c, .bool c.gd, .slice c.Ad c.nd c.cd], .int .i64 (L : Int)] w fun e w' => e = .returned (.bool (vok a b c L)) ∧ Below w.heap.size w w' := by
  unfold vok
  rcases s1 : vsh a L with _ | _
  · exact val_1 a b c L w h1 h2 h3 s1
  · rcases s2 : vsh b L with _ | _
    · exact val_2 a b c L w h1 h2 h3 s1 s2
    · rcases s3 : vsh c L with _ | _
      · exact val_3 a b c L w h1 h2 h3 s1 s2 s3
      · rcases v1 : vva a with _ | _
        · exact val_4 a b c L w h1 h2 h3 _ _ s1 s2 s3 v1 rfl rfl
        · rcases v2 : vva b with _ | _
          · exact val_5 a b c L w h1 h2 h3 _ s1 s2 s3 v1 v2 rfl
          · exact val_6 a b c L w h1 h2 h3 _ s1 s2 s3 v1 v2 rfl
end Go.Proofs.YtlibjampolcbhaaGreat
