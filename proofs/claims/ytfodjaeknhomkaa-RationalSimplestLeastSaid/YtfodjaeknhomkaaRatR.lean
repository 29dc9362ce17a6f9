/-
  Stage 2: the convergent that follows two others.
-/
import Derived.Test.YtfodjaeknhomkaaRatQ
namespace Go.Proofs.Ytfodjaeknhomkaa
open Go.RowKit
/-- What convergent hands back: a rational, and f in the box of the calls. -/
def RetMQ (z zd f : Int) (p : Nat) (w : World) (e : Ending) (w' : World) : Prop := ∃ t : RVal, e = .returned (.agg #[.bool t.g, .slice t.A t.n t.c, .bool t.gd, .slice t.Ad t.nd t.cd]) ∧ t.In w' ∧ t.o = some z ∧ t.od = some zd ∧ Kp w w' p f
theorem Kp.put {w w' : World} {p r : Nat} {f : Int} {q : RVal} (h : Kp w w' p f) (hr : Rb w' r q) (hs : w.heap.size ≤ r) (hp : p < w.heap.size) (a : Bool) (b : Value) (c : Bool) (d : Value) : Kp w (put4 w' r a b c d) p f := by
  refine ⟨fun A n c xs s => (h.sl A n c xs s).put4 hr.bx _ _ _ _, fun g t cs hg k => ?_, ?_, fun B a k h1 h2 => below_put4 (h.bel B a k h1 h2) (by omega) _ _ _ _, by rw [put4_size]; exact h.size⟩
  · have hlt := Blk.lt k
    have hne : g ≠ r := by omega
    exact Blk.far (Blk.far (Blk.far (Blk.far (h.blk g t cs hg k) (p := ⟨r, 0, none⟩) hne _) (p := ⟨r, 1, none⟩) hne _) (p := ⟨r, 2, none⟩) hne _) (p := ⟨r, 3, none⟩) hne _
  · have hne : p ≠ r := by omega
    exact Blk.far (Blk.far (Blk.far (Blk.far h.cl (p := ⟨r, 0, none⟩) hne _) (p := ⟨r, 1, none⟩) hne _) (p := ⟨r, 2, none⟩) hne _) (p := ⟨r, 3, none⟩) hne _
theorem conv_boxes (q q' : RVal) (g : Bool) (A : Option Addr) (n c : Nat) (xs : List Nat) (w W : World) (h : q.In w) (h' : q'.In w) (hx : Sl w w.heap.size A n c xs)
    (hW : (((w.alloc (.cells #[.bool q.g, .slice q.A q.n q.c, .bool q.gd, .slice q.Ad q.nd q.cd] 28)).alloc (.cells #[.bool q'.g, .slice q'.A q'.n q'.c, .bool q'.gd, .slice q'.Ad q'.nd q'.cd] 28)).alloc (.cells #[.bool g, .slice A n c] 26)).alloc (.cells #[.bool false, .slice none 0 0, .bool false, .slice none 0 0] 28) = W) :
    Below w.heap.size w W ∧ Rb W w.heap.size q ∧ Rb W (w.heap.size + 1) q' ∧ Ba W (w.heap.size + 1 + 1) g A n c xs ∧ Rb W (w.heap.size + 1 + 1 + 1) RVal.nil := by
  obtain ⟨hb, h1, h2⟩ := two_rats q q' w _ h h' rfl
  have n3 := below_new ((w.alloc (.cells #[.bool q.g, .slice q.A q.n q.c, .bool q.gd, .slice q.Ad q.nd q.cd] 28)).alloc (.cells #[.bool q'.g, .slice q'.A q'.n q'.c, .bool q'.gd, .slice q'.Ad q'.nd q'.cd] 28)) (.cells #[.bool g, .slice A n c] 26)
  have b3 := Bx.new ((w.alloc (.cells #[.bool q.g, .slice q.A q.n q.c, .bool q.gd, .slice q.Ad q.nd q.cd] 28)).alloc (.cells #[.bool q'.g, .slice q'.A q'.n q'.c, .bool q'.gd, .slice q'.Ad q'.nd q'.cd] 28)) g A n c
  have n4 := below_new (((w.alloc (.cells #[.bool q.g, .slice q.A q.n q.c, .bool q.gd, .slice q.Ad q.nd q.cd] 28)).alloc (.cells #[.bool q'.g, .slice q'.A q'.n q'.c, .bool q'.gd, .slice q'.Ad q'.nd q'.cd] 28)).alloc (.cells #[.bool g, .slice A n c] 26)) (.cells #[.bool false, .slice none 0 0, .bool false, .slice none 0 0] 28)
  have b4 := Rb.new (RVal.nil_in (((w.alloc (.cells #[.bool q.g, .slice q.A q.n q.c, .bool q.gd, .slice q.Ad q.nd q.cd] 28)).alloc (.cells #[.bool q'.g, .slice q'.A q'.n q'.c, .bool q'.gd, .slice q'.Ad q'.nd q'.cd] 28)).alloc (.cells #[.bool g, .slice A n c] 26)))
  rw [hW] at n4
  refine ⟨below_chain (below_chain hb hb.size n3) (by have := hb.size; simp at this ⊢; omega) n4, (h1.on n3).on n4, (h2.on n3).on n4, ⟨?_, ((hx.on hb).on n3).on n4⟩, ?_⟩
  · have := b3.below n4 b3.lt
    simpa using this
  · rw [← hW]
    simpa [RVal.nil] using b4
set_option maxRecDepth 20000 in
set_option maxHeartbeats 4000000 in
theorem conv_any (q q' : RVal) (g : Bool) (A : Option Addr) (n c p : Nat) (xs : List Nat) (pn pd rn rd k z1 z2 z3 z4 f0 f1 f2 f3 f4 : Int) (w : World) (h : q.In w) (h' : q'.In w) (hx : Sl w w.heap.size A n c xs) (hp : Blk w p 72 #[.int .i64 f0])
    (o1 : q.o = some pn) (o2 : q.od = some pd) (o3 : q'.o = some rn) (o4 : q'.od = some rd) (o5 : ov g xs = some k)
    (h1 : fitZ (k * rn) = z1) (h2 : fitZ (z1 + pn) = z2) (h3 : fitZ (k * rd) = z3) (h4 : fitZ (z3 + pd) = z4) (k1 : Kf f0 (fitE (k * rn)) f1) (k2 : Kf f1 (fitE (z1 + pn)) f2) (k3 : Kf f2 (fitE (k * rd)) f3) (k4 : Kf f3 (fitE (z3 + pd)) f4) :
    Calls Try.prog 42 #[.pointer (some ⟨p, 0, none⟩), .agg #[.bool q.g, .slice q.A q.n q.c, .bool q.gd, .slice q.Ad q.nd q.cd], .agg #[.bool q'.g, .slice q'.A q'.n q'.c, .bool q'.gd, .slice q'.Ad q'.nd q'.cd], .agg #[.bool g, .slice A n c]] w (RetMQ z2 z4 f4 p w) := by
  have HO := Lib.hid (And.intro (And.intro o1 o2) (And.intro (And.intro o3 o4) o5))
  have HZ := Lib.hid (And.intro h1 (And.intro h2 (And.intro h3 h4)))
  have HF := Lib.hid (And.intro k1 (And.intro k2 (And.intro k3 k4)))
  have HS := Lib.hid (And.intro h (And.intro h' hx))
  have hlt := Blk.lt hp
  have HP := Lib.hid hp
  clear o1 o2 o3 o4 o5 h1 h2 h3 h4 k1 k2 k3 k4 h h' hx hp
  go_enter Try.func42, Try.ntmps42
  go_upto_region 1 with fail
  generalize hW : World.alloc (World.alloc (World.alloc (World.alloc w _) _) _) _ = V
  obtain ⟨hb, ra, rb, rx, rr⟩ := conv_boxes q q' g A n c xs w V HS.out.1 HS.out.2.1 HS.out.2.2 hW
  have KW : Hid (Kp w V p f0) := Lib.hid (Kp.below hb HP.out)
  have hsz0 : w.heap.size ≤ V.heap.size := hb.size
  generalize hr : w.heap.size = r at *
  have HRr := Lib.hid hr
  have HA := Lib.hid (And.intro ra (And.intro rb (And.intro rx rr)))
  have HN := Lib.hid (show r ≠ p ∧ r + 1 ≠ p ∧ r + 1 + 1 ≠ p ∧ r + 1 + 1 + 1 ≠ p from ⟨by omega, by omega, by omega, by omega⟩)
  have K0 : Hid (Kp V V p f0) := Lib.hid (Kp.below (Below.refl _ _) KW.out.cl)
  have K0d := Lib.hid K0.out.drew
  have hsz : r ≤ V.heap.size := hsz0
  have lr := rr.lt
  clear hb ra rb rx rr hW hr hsz0
  go_cut [9] (fun s9 wx => Mid V p z2 f2 s9 wx)
  case first =>
    have p0 := (K0.out.rb HA.out.1 HN.out.1).c0
    have p1 := (K0.out.rb HA.out.1 HN.out.1).c1
    have p2 := (K0.out.rb HA.out.1 HN.out.1).c2
    have p3 := (K0.out.rb HA.out.1 HN.out.1).c3
    have p4 := (K0.out.rb HA.out.2.1 HN.out.2.1).c0
    have p5 := (K0.out.rb HA.out.2.1 HN.out.2.1).c1
    have p6 := (K0.out.rb HA.out.2.1 HN.out.2.1).c2
    have p7 := (K0.out.rb HA.out.2.1 HN.out.2.1).c3
    have p8 := (K0.out.ba HA.out.2.2.1 HN.out.2.2.1).bx.c0
    have p9 := (K0.out.ba HA.out.2.2.1 HN.out.2.2.1).bx.c1
    have pw0 := World.new_ne _ _ p0
    have px0 := pw0.symm
    have pw4 := World.new_ne _ _ p4
    have px4 := pw4.symm
    have pw8 := World.new_ne _ _ p8
    have px8 := pw8.symm
    go_region_held3 (fun w' => w'.cell? ⟨r, 0, none⟩ = some (.bool q.g) ∧ w'.cell? ⟨r, 1, none⟩ = some (.slice q.A q.n q.c) ∧ w'.cell? ⟨r, 2, none⟩ = some (.bool q.gd) ∧ w'.cell? ⟨r, 3, none⟩ = some (.slice q.Ad q.nd q.cd) ∧ w'.cell? ⟨r + 1, 0, none⟩ = some (.bool q'.g) ∧ w'.cell? ⟨r + 1, 1, none⟩ = some (.slice q'.A q'.n q'.c) ∧ w'.cell? ⟨r + 1, 2, none⟩ = some (.bool q'.gd) ∧ w'.cell? ⟨r + 1, 3, none⟩ = some (.slice q'.Ad q'.nd q'.cd) ∧ w'.cell? ⟨r + 1 + 1, 0, none⟩ = some (.bool g) ∧ w'.cell? ⟨r + 1 + 1, 1, none⟩ = some (.slice A n c)) (go_keep)
      (first
        | (go_at_call 26; (first | (have K := K1.out; have C := cadd_any g1 q.g A1 q.A n1 c1 q.n q.c p xs1 q.xs z1 pn f1 f2 v1 G1.out.1 (K.sl _ _ _ _ HA.out.1.sl.1) G1.out.2 HO.out.1.1 K.cl HF.out.2.1; rw [HZ.out.2.1] at C; (with_reducible refine C.mono ?_); clear C; rintro e v2 ⟨g2, A2, n2, c2, xs2, rfl, hs2, ho2, hk2⟩; (try replace fb := fb.kp hk2 hlt hsz hbl); have K2 := Lib.hid (K.trans hk2); have G2 := Lib.hid (And.intro hs2 ho2); clear K hk2 hs2 ho2) | (have K := (K1.out.alloc (.cells #[.bool false, .slice none 0 0] 26)); have C := cadd_any g1 q.g A1 q.A n1 c1 q.n q.c p xs1 q.xs z1 pn f1 f2 (v1.alloc (.cells #[.bool false, .slice none 0 0] 26)) (G1.out.1.on (below_new _ _)) (K.sl _ _ _ _ HA.out.1.sl.1) G1.out.2 HO.out.1.1 K.cl HF.out.2.1; rw [HZ.out.2.1] at C; (with_reducible refine C.mono ?_); clear C; rintro e v2 ⟨g2, A2, n2, c2, xs2, rfl, hs2, ho2, hk2⟩; have fb : Bx v2 v1.heap.size false none 0 0 := hk2.bx (Bx.new v1 false none 0 0) (ne_box hlt hsz K1.out.size); have hbl : Hid (Lez V.heap.size v1.heap.size) := Lib.hid K1.out.size; have K2 := Lib.hid (K.trans hk2); have G2 := Lib.hid (And.intro hs2 ho2); clear K hk2 hs2 ho2)); clear t0 t1 t2 t3 t4 t5 t6 t7 t8 t9; have u0 := (K2.out.rb HA.out.1 HN.out.1).c0; have u1 := (K2.out.rb HA.out.1 HN.out.1).c1; have u2 := (K2.out.rb HA.out.1 HN.out.1).c2; have u3 := (K2.out.rb HA.out.1 HN.out.1).c3; have u4 := (K2.out.rb HA.out.2.1 HN.out.2.1).c0; have u5 := (K2.out.rb HA.out.2.1 HN.out.2.1).c1; have u6 := (K2.out.rb HA.out.2.1 HN.out.2.1).c2; have u7 := (K2.out.rb HA.out.2.1 HN.out.2.1).c3; have u8 := (K2.out.ba HA.out.2.2.1 HN.out.2.2.1).bx.c0; have u9 := (K2.out.ba HA.out.2.2.1 HN.out.2.2.1).bx.c1; have uw0 := World.new_ne _ _ u0; have ux0 := uw0.symm; have uw4 := World.new_ne _ _ u4; have ux4 := uw4.symm; have uw8 := World.new_ne _ _ u8; have ux8 := uw8.symm; (try (have t0 := fb.c0; have t1 := fb.c1; have t2 := fb.f 0; have t3 := fb.f 1; have t8 := fb.lt; have FB := Lib.hid fb; clear fb)))
        | (go_at_call 27; (first | (have K := K0d.out; have C := cmul_any g q'.g A q'.A n c q'.n q'.c p xs q'.xs k rn f0 f1 V.drew (K.sl _ _ _ _ HA.out.2.2.1.sl) (K.sl _ _ _ _ HA.out.2.1.sl.1) HO.out.2.2 HO.out.2.1.1 K.cl HF.out.1; rw [HZ.out.1] at C; (with_reducible refine C.mono ?_); clear C; rintro e v1 ⟨g1, A1, n1, c1, xs1, rfl, hs1, ho1, hk1⟩; have K1 := Lib.hid (K.trans hk1); have G1 := Lib.hid (And.intro hs1 ho1); clear K hk1 hs1 ho1) | (have K := (K0.out.alloc (.cells #[.bool false, .slice none 0 0] 26)).drew; have C := cmul_any g q'.g A q'.A n c q'.n q'.c p xs q'.xs k rn f0 f1 (V.alloc (.cells #[.bool false, .slice none 0 0] 26)).drew (K.sl _ _ _ _ HA.out.2.2.1.sl) (K.sl _ _ _ _ HA.out.2.1.sl.1) HO.out.2.2 HO.out.2.1.1 K.cl HF.out.1; rw [HZ.out.1] at C; (with_reducible refine C.mono ?_); clear C; rintro e v1 ⟨g1, A1, n1, c1, xs1, rfl, hs1, ho1, hk1⟩; have fb : Bx v1 V.heap.size false none 0 0 := hk1.bx (Bx.new V.drew false none 0 0) (ne_box hlt hsz K0d.out.size); have hbl : Hid (Lez V.heap.size V.heap.size) := Lib.hid K0d.out.size; have K1 := Lib.hid (K.trans hk1); have G1 := Lib.hid (And.intro hs1 ho1); clear K hk1 hs1 ho1)); clear p0 p1 p2 p3 p4 p5 p6 p7 p8 p9; have t0 := (K1.out.rb HA.out.1 HN.out.1).c0; have t1 := (K1.out.rb HA.out.1 HN.out.1).c1; have t2 := (K1.out.rb HA.out.1 HN.out.1).c2; have t3 := (K1.out.rb HA.out.1 HN.out.1).c3; have t4 := (K1.out.rb HA.out.2.1 HN.out.2.1).c0; have t5 := (K1.out.rb HA.out.2.1 HN.out.2.1).c1; have t6 := (K1.out.rb HA.out.2.1 HN.out.2.1).c2; have t7 := (K1.out.rb HA.out.2.1 HN.out.2.1).c3; have t8 := (K1.out.ba HA.out.2.2.1 HN.out.2.2.1).bx.c0; have t9 := (K1.out.ba HA.out.2.2.1 HN.out.2.2.1).bx.c1; have tw0 := World.new_ne _ _ t0; have tx0 := tw0.symm; have tw4 := World.new_ne _ _ t4; have tx4 := tw4.symm; have tw8 := World.new_ne _ _ t8; have tx8 := tw8.symm))
    all_goals (go_wp2_with fail; go_meet; first | exact mid_new K2.out G2.out.1 G2.out.2 | exact mid_old FB.out K2.out (Nat.lt_of_lt_of_le hlt hsz) hbl.out G2.out.1 G2.out.2)
  case rest =>
  obtain ⟨s, g5, A5, n5, c5, xs5, rfl, X5, o5, k5, l5⟩ := hcut
  obtain ⟨w5, rfl⟩ : ∃ w5 : World, w5 = wc := ⟨_, rfl⟩
  have K5 := Lib.hid k5
  have O5 := Lib.hid o5
  have HX5 := Lib.hid X5
  have K0 : Hid (Kp w5 w5 p f2) := Lib.hid (Kp.below (Below.refl _ _) K5.out.cl)
  have K0d := Lib.hid K0.out.drew
  have HA5 := Lib.hid (show Rb w5 r q ∧ Rb w5 (r + 1) q' ∧ Ba w5 (r + 1 + 1) g A n c xs ∧ Rb w5 (r + 1 + 1 + 1) RVal.nil from ⟨K5.out.rb HA.out.1 HN.out.1, K5.out.rb HA.out.2.1 HN.out.2.1, K5.out.ba HA.out.2.2.1 HN.out.2.2.1, K5.out.rb HA.out.2.2.2 HN.out.2.2.2⟩)
  have hszc : r ≤ w5.heap.size := Nat.le_trans hsz K5.out.size
  have xp : s ≠ p := by omega
  have xr : s ≠ r + 1 + 1 + 1 := by omega
  have xr' : r + 1 + 1 + 1 ≠ s := by omega
  clear k5 o5 X5 HA hsz
  have HA := HA5
  have hsz := hszc
  clear HA5 hszc
  go_upto_region 2 with fail
  go_cut [10] (fun s10 wx => Mid w5 p z4 f4 s10 wx)
  case first =>
    have p0 := (K0.out.rb HA.out.1 HN.out.1).c0
    have p1 := (K0.out.rb HA.out.1 HN.out.1).c1
    have p2 := (K0.out.rb HA.out.1 HN.out.1).c2
    have p3 := (K0.out.rb HA.out.1 HN.out.1).c3
    have p4 := (K0.out.rb HA.out.2.1 HN.out.2.1).c0
    have p5 := (K0.out.rb HA.out.2.1 HN.out.2.1).c1
    have p6 := (K0.out.rb HA.out.2.1 HN.out.2.1).c2
    have p7 := (K0.out.rb HA.out.2.1 HN.out.2.1).c3
    have p8 := (K0.out.ba HA.out.2.2.1 HN.out.2.2.1).bx.c0
    have p9 := (K0.out.ba HA.out.2.2.1 HN.out.2.2.1).bx.c1
    have pw0 := World.new_ne _ _ p0
    have px0 := pw0.symm
    have pw4 := World.new_ne _ _ p4
    have px4 := pw4.symm
    have pw8 := World.new_ne _ _ p8
    have px8 := pw8.symm
    go_region_held3 (fun w' => w'.cell? ⟨r, 0, none⟩ = some (.bool q.g) ∧ w'.cell? ⟨r, 1, none⟩ = some (.slice q.A q.n q.c) ∧ w'.cell? ⟨r, 2, none⟩ = some (.bool q.gd) ∧ w'.cell? ⟨r, 3, none⟩ = some (.slice q.Ad q.nd q.cd) ∧ w'.cell? ⟨r + 1, 0, none⟩ = some (.bool q'.g) ∧ w'.cell? ⟨r + 1, 1, none⟩ = some (.slice q'.A q'.n q'.c) ∧ w'.cell? ⟨r + 1, 2, none⟩ = some (.bool q'.gd) ∧ w'.cell? ⟨r + 1, 3, none⟩ = some (.slice q'.Ad q'.nd q'.cd) ∧ w'.cell? ⟨r + 1 + 1, 0, none⟩ = some (.bool g) ∧ w'.cell? ⟨r + 1 + 1, 1, none⟩ = some (.slice A n c)) (go_keep)
      (first
        | (go_at_call 26; (first | (have K := K1.out; have C := cadd_any g1 q.gd A1 q.Ad n1 c1 q.nd q.cd p xs1 q.ys z3 pd f3 f4 v1 G1.out.1 (K.sl _ _ _ _ HA.out.1.sl.2) G1.out.2 HO.out.1.2 K.cl HF.out.2.2.2; rw [HZ.out.2.2.2] at C; (with_reducible refine C.mono ?_); clear C; rintro e v2 ⟨g2, A2, n2, c2, xs2, rfl, hs2, ho2, hk2⟩; (try replace fb := fb.kp hk2 hlt hsz hbl); have K2 := Lib.hid (K.trans hk2); have G2 := Lib.hid (And.intro hs2 ho2); clear K hk2 hs2 ho2) | (have K := (K1.out.alloc (.cells #[.bool false, .slice none 0 0] 26)); have C := cadd_any g1 q.gd A1 q.Ad n1 c1 q.nd q.cd p xs1 q.ys z3 pd f3 f4 (v1.alloc (.cells #[.bool false, .slice none 0 0] 26)) (G1.out.1.on (below_new _ _)) (K.sl _ _ _ _ HA.out.1.sl.2) G1.out.2 HO.out.1.2 K.cl HF.out.2.2.2; rw [HZ.out.2.2.2] at C; (with_reducible refine C.mono ?_); clear C; rintro e v2 ⟨g2, A2, n2, c2, xs2, rfl, hs2, ho2, hk2⟩; have fb : Bx v2 v1.heap.size false none 0 0 := hk2.bx (Bx.new v1 false none 0 0) (ne_box hlt hsz K1.out.size); have hbl : Hid (Lez w5.heap.size v1.heap.size) := Lib.hid K1.out.size; have K2 := Lib.hid (K.trans hk2); have G2 := Lib.hid (And.intro hs2 ho2); clear K hk2 hs2 ho2)); clear t0 t1 t2 t3 t4 t5 t6 t7 t8 t9; have u0 := (K2.out.rb HA.out.1 HN.out.1).c0; have u1 := (K2.out.rb HA.out.1 HN.out.1).c1; have u2 := (K2.out.rb HA.out.1 HN.out.1).c2; have u3 := (K2.out.rb HA.out.1 HN.out.1).c3; have u4 := (K2.out.rb HA.out.2.1 HN.out.2.1).c0; have u5 := (K2.out.rb HA.out.2.1 HN.out.2.1).c1; have u6 := (K2.out.rb HA.out.2.1 HN.out.2.1).c2; have u7 := (K2.out.rb HA.out.2.1 HN.out.2.1).c3; have u8 := (K2.out.ba HA.out.2.2.1 HN.out.2.2.1).bx.c0; have u9 := (K2.out.ba HA.out.2.2.1 HN.out.2.2.1).bx.c1; have uw0 := World.new_ne _ _ u0; have ux0 := uw0.symm; have uw4 := World.new_ne _ _ u4; have ux4 := uw4.symm; have uw8 := World.new_ne _ _ u8; have ux8 := uw8.symm; (try (have t0 := fb.c0; have t1 := fb.c1; have t2 := fb.f 0; have t3 := fb.f 1; have t8 := fb.lt; have FB := Lib.hid fb; clear fb)))
        | (go_at_call 27; (first | (have K := K0d.out; have C := cmul_any g q'.gd A q'.Ad n c q'.nd q'.cd p xs q'.ys k rd f2 f3 w5.drew (K.sl _ _ _ _ HA.out.2.2.1.sl) (K.sl _ _ _ _ HA.out.2.1.sl.2) HO.out.2.2 HO.out.2.1.2 K.cl HF.out.2.2.1; rw [HZ.out.2.2.1] at C; (with_reducible refine C.mono ?_); clear C; rintro e v1 ⟨g1, A1, n1, c1, xs1, rfl, hs1, ho1, hk1⟩; have K1 := Lib.hid (K.trans hk1); have G1 := Lib.hid (And.intro hs1 ho1); clear K hk1 hs1 ho1) | (have K := (K0.out.alloc (.cells #[.bool false, .slice none 0 0] 26)).drew; have C := cmul_any g q'.gd A q'.Ad n c q'.nd q'.cd p xs q'.ys k rd f2 f3 (w5.alloc (.cells #[.bool false, .slice none 0 0] 26)).drew (K.sl _ _ _ _ HA.out.2.2.1.sl) (K.sl _ _ _ _ HA.out.2.1.sl.2) HO.out.2.2 HO.out.2.1.2 K.cl HF.out.2.2.1; rw [HZ.out.2.2.1] at C; (with_reducible refine C.mono ?_); clear C; rintro e v1 ⟨g1, A1, n1, c1, xs1, rfl, hs1, ho1, hk1⟩; have fb : Bx v1 w5.heap.size false none 0 0 := hk1.bx (Bx.new w5.drew false none 0 0) (ne_box hlt hsz K0d.out.size); have hbl : Hid (Lez w5.heap.size w5.heap.size) := Lib.hid K0d.out.size; have K1 := Lib.hid (K.trans hk1); have G1 := Lib.hid (And.intro hs1 ho1); clear K hk1 hs1 ho1)); clear p0 p1 p2 p3 p4 p5 p6 p7 p8 p9; have t0 := (K1.out.rb HA.out.1 HN.out.1).c0; have t1 := (K1.out.rb HA.out.1 HN.out.1).c1; have t2 := (K1.out.rb HA.out.1 HN.out.1).c2; have t3 := (K1.out.rb HA.out.1 HN.out.1).c3; have t4 := (K1.out.rb HA.out.2.1 HN.out.2.1).c0; have t5 := (K1.out.rb HA.out.2.1 HN.out.2.1).c1; have t6 := (K1.out.rb HA.out.2.1 HN.out.2.1).c2; have t7 := (K1.out.rb HA.out.2.1 HN.out.2.1).c3; have t8 := (K1.out.ba HA.out.2.2.1 HN.out.2.2.1).bx.c0; have t9 := (K1.out.ba HA.out.2.2.1 HN.out.2.2.1).bx.c1; have tw0 := World.new_ne _ _ t0; have tx0 := tw0.symm; have tw4 := World.new_ne _ _ t4; have tx4 := tw4.symm; have tw8 := World.new_ne _ _ t8; have tx8 := tw8.symm))
    all_goals (go_wp2_with fail; go_meet; first | exact mid_new K2.out G2.out.1 G2.out.2 | exact mid_old FB.out K2.out (Nat.lt_of_lt_of_le hlt hsz) hbl.out G2.out.1 G2.out.2)
  case rest =>
  obtain ⟨t, g6, A6, n6, c6, xs6, rfl, X6, o6, k6, l6⟩ := hcut
  have K6 := Lib.hid k6
  have HX6 := Lib.hid X6
  have HX5' := Lib.hid (k6.ba HX5.out xp)
  have RR := Lib.hid (k6.rb HA.out.2.2.2 HN.out.2.2.2)
  have O6 := Lib.hid o6
  have m0 := HX5'.out.bx.c0
  have m1 := HX5'.out.bx.c1
  have m2 := HX6.out.bx.c0
  have m3 := HX6.out.bx.c1
  have yr : t ≠ r + 1 + 1 + 1 := by have := HA.out.2.2.2.lt; omega
  have yr' := yr.symm
  clear k6 o6 X6
  have f0 := RR.out.f 0
  have f1 := RR.out.f 1
  have f2 := RR.out.f 2
  have f3 := RR.out.f 3
  have q0 := RR.out.c0
  have q1 := RR.out.c1
  have q2 := RR.out.c2
  have q3 := RR.out.c3
  simp only [RVal.nil] at q0 q1 q2 q3
  go_wp2
  generalize hU : World.setCell (World.setCell (World.setCell (World.setCell wc _ _) _ _) _ _) _ _ = U
  have RU' := (Rb.put (q' := (⟨g5, A5, n5, c5, xs5, g6, A6, n6, c6, xs6⟩ : RVal)) RR.out ⟨HX5'.out.sl, HX6.out.sl⟩)
  have RU : Rb U (r + 1 + 1 + 1) (⟨g5, A5, n5, c5, xs5, g6, A6, n6, c6, xs6⟩ : RVal) := by rw [← hU]; exact RU'
  have HU : Kp w U p f4 := by rw [← hU]; exact ((KW.out.trans K5.out).trans K6.out).put RR.out (by rw [HRr.out]; omega) (by rw [HRr.out]; exact hlt) _ _ _ _
  have j0 := RU.c0
  have j1 := RU.c1
  have j2 := RU.c2
  have j3 := RU.c3
  dsimp only at j0 j1 j2 j3
  refine bodyPost_ret (v := .agg #[.bool g5, .slice A5 n5 c5, .bool g6, .slice A6 n6 c6]) (by simp [results, Try.results42, go_sem, j0, j1, j2, j3]) rfl ?_
  exact ⟨_, rfl, RU.sl, O5.out, O6.out, HU⟩
end Go.Proofs.Ytfodjaeknhomkaa
