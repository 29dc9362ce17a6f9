/-
 Stage 2: the reference's integer arithmetic by values. Stage 2: the reference's negative, lowest, Make and Of. Stage 2: the reference's Make, Of and the test of two numbers.
-/
import Derived.Test.YtmncfbfepdbioaaGreatDoorRatZi
import Derived.Test.YtmncfbfepdbioaaGreatDoorRatY
import Derived.Test.YtmncfbfepdbioaaGreatDoorBaseG
set_option linter.unusedSimpArgs false
set_option maxRecDepth 20000
set_option maxHeartbeats 2000000
namespace Go.Proofs.YtmncfbfepdbioaaGreatDoor
open Go.RowKit
theorem hI {p : Prop} (h : p) : Hid p := Lib.hid h
theorem bch {r : Nat} {w w1 w2 : World} (h : Below r w w1) (hr : w.heap.size = r) (hb : Below w1.heap.size w1 w2) : Below r w w2 := below_chain h (by have := h.size; omega) hb
theorem Rb.cs {w : World} {r : Nat} {q : RVal} (h : Rb w r q) : w.cell? ⟨r, 0, none⟩ = some (.bool q.g) /\ w.cell? ⟨r, 1, none⟩ = some (.slice q.A q.n q.c) /\ w.cell? ⟨r, 2, none⟩ = some (.bool q.gd) /\ w.cell? ⟨r, 3, none⟩ = some (.slice q.Ad q.nd q.cd) := ⟨h.c0, h.c1, h.c2, h.c3⟩
theorem Rb.fs {w : World} {r : Nat} {q : RVal} (h : Rb w r q) : w.frozen? ⟨r, 0, none⟩ = false /\ w.frozen? ⟨r, 1, none⟩ = false /\ w.frozen? ⟨r, 2, none⟩ = false /\ w.frozen? ⟨r, 3, none⟩ = false := ⟨h.f 0, h.f 1, h.f 2, h.f 3⟩
section
variable {w : World} {r n c : Nat} {g : Bool} {A : Option Addr} {xs : List Nat}
theorem Ba.cs (h : Ba w r g A n c xs) : w.cell? ⟨r, 0, none⟩ = some (.bool g) /\ w.cell? ⟨r, 1, none⟩ = some (.slice A n c) := ⟨h.bx.c0, h.bx.c1⟩
theorem Ba.fs (h : Ba w r g A n c xs) : w.frozen? ⟨r, 0, none⟩ = false /\ w.frozen? ⟨r, 1, none⟩ = false := ⟨h.bx.f 0, h.bx.f 1⟩
end
def RetZE (z er : Int) (w : World) (e : Ending) (w' : World) : Prop := ∃ g A n c xs, e = .returned (.tuple #[.agg #[.bool g, .slice A n c], .int .i64 er]) /\ Sl w' w'.heap.size A n c xs /\ ov g xs = some z /\ Below w.heap.size w w'
def RetZ2 (z z2 er : Int) (w : World) (e : Ending) (w' : World) : Prop := ∃ g A n c xs g' A' n' c' ys, e = .returned (.tuple #[.agg #[.bool g, .slice A n c], .agg #[.bool g', .slice A' n' c'], .int .i64 er]) /\ Sl w' w'.heap.size A n c xs /\ ov g xs = some z /\ Sl w' w'.heap.size A' n' c' ys /\ ov g' ys = some z2 /\ Below w.heap.size w w'
theorem RetIE.ze {z er : Int} {w : World} {e : Ending} {w' : World} (hz : z.natAbs < BIG) (h : RetIE z er w e w') : RetZE z er w e w' := by
 obtain ⟨A, n, c, xs, rfl, hs, hx, hv, hb⟩ := h
 exact ⟨_, A, n, c, xs, rfl, hs, ov_res hs.ok hx hv hz, hb⟩
theorem RetI2E.z2 {z z2 er : Int} {w : World} {e : Ending} {w' : World} (hz : z.natAbs < BIG) (hz2 : z2.natAbs < BIG) (h : RetI2E z z2 er w e w') : RetZ2 z z2 er w e w' := by
 obtain ⟨A, n, c, xs, A', n', c', ys, rfl, hs, hx, hv, hs', hx', hv', hb⟩ := h
 exact ⟨_, A, n, c, xs, _, A', n', c', ys, rfl, hs, ov_res hs.ok hx hv hz, hs', ov_res hs'.ok hx' hv' hz2, hb⟩
theorem ov_flip {w : World} {B n c : Nat} {A : Option Addr} {g : Bool} {xs : List Nat} {z : Int} (h : Sl w B A n c xs) (o : ov g xs = some z) (hz : z ≠ 0) : ov (!g) xs = some (-z) := by
 have p := ov_parts o
 have s := ov_sign o
 have k := ov_res (z := -z) h.ok p.1 (by rw [Int.natAbs_neg]; exact p.2.1) (by rw [Int.natAbs_neg]; exact ov_lt h.ok o)
 have e : decide (-z < 0) = !g := by
  rw [<- s]
  by_cases hn : z < 0
  . rw [decide_eq_true hn, decide_eq_false (by omega)]; rfl
  . rw [decide_eq_false hn, decide_eq_true (by omega)]; rfl
 rwa [e] at k
theorem ov_len0 {w : World} {B n c : Nat} {A : Option Addr} {g : Bool} {xs : List Nat} {z : Int} (h : Sl w B A n c xs) (o : ov g xs = some z) : decide (n = 0) = decide (z = 0) := by
 have hp := ov_parts o
 have hl := h.len
 by_cases h0 : z = 0
 . have hx : xs = [] := by
    rcases he : xs with _ | ⟨y, ys⟩
    . rfl
    . have := val_pos hp.1 (by rw [he]; simp)
      rw [hp.2.1, h0] at this
      simp at this
   rw [hx] at hl
   simp at hl
   rw [decide_eq_true h0, decide_eq_true (by omega)]
 . have : n ≠ 0 := by
    intro e
    have : xs = [] := List.eq_nil_of_length_eq_zero (by rw [hl]; omega)
    rw [this] at hp
    have := hp.2.1
    simp [val] at this
    omega
   rw [decide_eq_false h0, decide_eq_false this]
section
variable {g g' : Bool} {A A' : Option Addr} {n c n' c' : Nat} {xs ys : List Nat} {w : World} {a b : Int}
theorem rvalid_z (h : Sl w w.heap.size A n c xs) (b : Bool) (hv : (ov g xs).isSome = b) :
 Calls Tryz.prog 150 #[.agg #[.bool g, .slice A n c]] w fun e w' => e = .returned (.bool b) /\ Below w.heap.size w w' := by
 have k := rvalid_any g A n c _ xs w h (Nat.le_refl _)
 have e : vld g xs = b := by
  rw [<- hv]
  rcases hx : vld g xs with _ | _
  . rw [ov_none hx]; rfl
  . rw [ov_some hx]; rfl
 rwa [e] at k
theorem rgcd_z (h : Sl w w.heap.size A n c xs) (h' : Sl w w.heap.size A' n' c' ys) (hx : ov g xs = some a) (hy : ov g' ys = some b) :
 Calls Tryz.prog 157 #[.agg #[.bool g, .slice A n c], .agg #[.bool g', .slice A' n' c']] w (RetZE (gcdZ a b) 0 w) := by
 have C := rgcd_ov (neg := g) (neg' := g') h h'
 have f := fitE_gcd (ov_lt h.ok hx) (ov_lt h'.ok hy)
 rw [hx, hy, show o2Z gcdZ (some a) (some b) = gcdZ a b from f.2, show o2E gcdZ (some a) (some b) = 0 from f.1] at C
 exact C.mono fun _ _ k => k.ze (gcdZ_lt (ov_lt h.ok hx) (ov_lt h'.ok hy))
theorem rdivMod_z (h : Sl w w.heap.size A n c xs) (h' : Sl w w.heap.size A' n' c' ys) (hx : ov g xs = some a) (hy : ov g' ys = some b) (hb : b ≠ 0) (q r : Int) (hq : fq a b = q) (hr : fr a b = r) (bq : q.natAbs < BIG) :
 Calls Tryz.prog 180 #[.agg #[.bool g, .slice A n c], .agg #[.bool g', .slice A' n' c']] w (RetZ2 q r 0 w) := by
 have C := rdivMod_ov (neg := g) (neg' := g') h h'
 rw [hx, hy, dvQ_some, dvR_some, dvE_some, if_neg hb, if_neg hb, if_neg hb, hq, hr] at C
 have s := fq_spec a b hb
 have l := ov_lt h'.ok hy
 exact C.mono fun _ _ k => RetI2E.z2 bq (by rw [<- hr]; have := s.2.1; omega) k
theorem rof_z (n : Int) (w : World) (h1 : -9223372036854775808 <= n) (h2 : n <= 9223372036854775807) : Calls Tryz.prog 106 #[.int .i64 n] w (RetN n w) :=
 (rof_any n w h1 h2).mono fun _ _ k => k.n (big_small h1 h2)
end
end Go.Proofs.YtmncfbfepdbioaaGreatDoor
namespace Go.Proofs.YtmncfbfepdbioaaGreatDoor
open Go.RowKit
theorem RetN.of {z : Int} {w U : World} {r : Nat} {g : Bool} {A : Option Addr} {n c : Nat} {xs : List Nat} (h : Ba U r g A n c xs) (ho : ov g xs = some z) (hb : Below w.heap.size w U) : RetN z w (.returned (.agg #[.bool g, .slice A n c])) U := ⟨g, A, n, c, xs, rfl, h.sl, ho, hb⟩
theorem RetW.of {x : Rat} {w U : World} {r : Nat} {q : RVal} (h : Rb U r q) (ho : rv q.o q.od = some x) (hb : Below w.heap.size w U) : RetW x w (.returned (.agg #[.bool q.g, .slice q.A q.n q.c, .bool q.gd, .slice q.Ad q.nd q.cd])) U := ⟨q, rfl, h.sl, ho, hb⟩
theorem rneg_0 (ga : Bool) (Aa : Option Addr) (na ca : Nat) (xsa : List Nat) (w : World) (ha : Sl w w.heap.size Aa na ca xsa) (z : Int) (ha2 : ov ga xsa = some z) (hn : decide (na = 0) = true) :
 Calls Tryz.prog 179 #[.agg #[.bool ga, .slice Aa na ca]] w (RetN z w) := by
 have Va := hI ha2
 have HN := hI hn
 clear ha2 hn
 have Ja_0 := hI ha
 clear ha
 have B_0 : Hid (Below w.heap.size w w) := hI (Below.refl _ _)
 go_enter Tryz.func179, Tryz.ntmps179
 go_wp2_with fail
 generalize hW : World.alloc w _ = W1
 have hn := below_new w (.cells #[.bool ga, .slice Aa na ca] 25)
 rw [hW] at hn
 have hz : W1.heap.size = w.heap.size + 1 := by rw [<- hW]; simp
 have hx : Ba W1 w.heap.size ga Aa na ca xsa := by rw [<- hW]; exact ⟨Bx.new w _ _ _ _, Ja_0.out.on (below_new _ _)⟩
 have B_1 := hI (below_chain B_0.out B_0.out.size hn)
 generalize hr : w.heap.size = r at *
 have HRr := hI hr
 clear hr
 have Za_2 : Hid (Ba W1 r ga Aa na ca xsa) := hI hx
 have HT2 := hz
 clear hn hx hz hW B_0 Ja_0
 generalize hW : World.alloc W1 _ = W3
 have hn := below_new W1 (.cells #[.bool false, .slice none 0 0] 25)
 rw [hW] at hn
 have hx : Ba W3 W1.heap.size false none 0 0 [] := by rw [<- hW]; exact ⟨Bx.new W1 _ _ _ _, Sl.nil _ _⟩
 have hlt : r < W1.heap.size := Za_2.out.bx.lt
 have B_3 := hI (bch B_1.out HRr.out hn)
 have Za_4 := hI (Za_2.out.on hn)
 rw [HT2] at hx hlt
 have Ze_5 : Hid (Ba W3 (r + 1) false none 0 0 []) := hI hx
 clear hn hx hW hlt B_1 Za_2
 clear HT2
 refine (riszero_any _ _ _ _ W3).mono ?_
 rintro e w6 ⟨rfl, hb⟩
 have B_6 := hI (bch B_3.out HRr.out hb)
 have Za_7 := hI (Za_4.out.on hb)
 have Ze_8 := hI (Ze_5.out.on hb)
 clear hb B_3 Za_4 Ze_5
 skip
 obtain ⟨ka0, ka1⟩ := Za_7.out.cs
 obtain ⟨fa0, fa1⟩ := Za_7.out.fs
 have la := Za_7.out.bx.lt
 obtain ⟨ke0, ke1⟩ := Ze_8.out.cs
 obtain ⟨fe0, fe1⟩ := Ze_8.out.fs
 have le := Ze_8.out.bx.lt
 have nae : r ≠ (r + 1) := by omega
 have nea := nae.symm
 have hN := HN.out
 go_wp2
 clear ka0 ka1 fa0 fa1 la ke0 ke1 fe0 fe1 le nae nea
 generalize hW : World.setCell (World.setCell w6 _ _) _ _ = W9
 have B_9 : Hid (Below r w W9) := by rw [<- hW]; exact hI (below_ret B_6.out (by omega) _ _)
 have Za_10 : Hid (Ba W9 r ga Aa na ca xsa) := by rw [<- hW]; exact hI (Za_7.out.aside Ze_8.out (by omega) _ _)
 have Ze_11 : Hid (Ba W9 (r + 1) ga Aa na ca xsa) := by rw [<- hW]; exact hI (Ze_8.out.stored Za_7.out.sl _)
 clear hW B_6 Za_7 Ze_8
 have j0 := Ze_11.out.bx.c0
 have j1 := Ze_11.out.bx.c1
 refine bodyPost_ret (v := .agg #[.bool ga, .slice Aa na ca]) (by simp [results, Tryz.results179, go_sem, j0, j1]) rfl ?_
 exact RetN.of Ze_11.out Va.out (by rw [HRr.out]; exact B_9.out)
theorem rneg_1 (ga : Bool) (Aa : Option Addr) (na ca : Nat) (xsa : List Nat) (w : World) (ha : Sl w w.heap.size Aa na ca xsa) (z : Int) (ha2 : ov (!ga) xsa = some z) (hn : decide (na = 0) = false) :
 Calls Tryz.prog 179 #[.agg #[.bool ga, .slice Aa na ca]] w (RetN z w) := by
 have Va := hI ha2
 have HN := hI hn
 clear ha2 hn
 have Ja_0 := hI ha
 clear ha
 have B_0 : Hid (Below w.heap.size w w) := hI (Below.refl _ _)
 go_enter Tryz.func179, Tryz.ntmps179
 go_wp2_with fail
 generalize hW : World.alloc w _ = W1
 have hn := below_new w (.cells #[.bool ga, .slice Aa na ca] 25)
 rw [hW] at hn
 have hz : W1.heap.size = w.heap.size + 1 := by rw [<- hW]; simp
 have hx : Ba W1 w.heap.size ga Aa na ca xsa := by rw [<- hW]; exact ⟨Bx.new w _ _ _ _, Ja_0.out.on (below_new _ _)⟩
 have B_1 := hI (below_chain B_0.out B_0.out.size hn)
 generalize hr : w.heap.size = r at *
 have HRr := hI hr
 clear hr
 have Za_2 : Hid (Ba W1 r ga Aa na ca xsa) := hI hx
 have HT2 := hz
 clear hn hx hz hW B_0 Ja_0
 generalize hW : World.alloc W1 _ = W3
 have hn := below_new W1 (.cells #[.bool false, .slice none 0 0] 25)
 rw [hW] at hn
 have hx : Ba W3 W1.heap.size false none 0 0 [] := by rw [<- hW]; exact ⟨Bx.new W1 _ _ _ _, Sl.nil _ _⟩
 have hlt : r < W1.heap.size := Za_2.out.bx.lt
 have B_3 := hI (bch B_1.out HRr.out hn)
 have Za_4 := hI (Za_2.out.on hn)
 rw [HT2] at hx hlt
 have Ze_5 : Hid (Ba W3 (r + 1) false none 0 0 []) := hI hx
 clear hn hx hW hlt B_1 Za_2
 clear HT2
 refine (riszero_any _ _ _ _ W3).mono ?_
 rintro e w6 ⟨rfl, hb⟩
 have B_6 := hI (bch B_3.out HRr.out hb)
 have Za_7 := hI (Za_4.out.on hb)
 have Ze_8 := hI (Ze_5.out.on hb)
 clear hb B_3 Za_4 Ze_5
 skip
 obtain ⟨ka0, ka1⟩ := Za_7.out.cs
 obtain ⟨fa0, fa1⟩ := Za_7.out.fs
 have la := Za_7.out.bx.lt
 obtain ⟨ke0, ke1⟩ := Ze_8.out.cs
 obtain ⟨fe0, fe1⟩ := Ze_8.out.fs
 have le := Ze_8.out.bx.lt
 have nae : r ≠ (r + 1) := by omega
 have nea := nae.symm
 have hN := HN.out
 go_wp2
 clear ka0 ka1 fa0 fa1 la ke0 ke1 fe0 fe1 le nae nea
 have Jm_0 : Hid (Sl w6 w6.heap.size Aa na ca xsa) := hI Za_7.out.sl
 generalize hW : World.setCell (World.setCell w6 _ _) _ _ = W9
 have B_9 : Hid (Below r w W9) := by rw [<- hW]; exact hI (below_ret B_6.out (by omega) _ _)
 have Za_10 : Hid (Ba W9 r ga Aa na ca xsa) := by rw [<- hW]; exact hI (Za_7.out.aside Ze_8.out (by omega) _ _)
 have Ze_11 : Hid (Ba W9 (r + 1) (!ga) Aa na ca xsa) := by rw [<- hW]; exact hI (Ze_8.out.stored Jm_0.out _)
 clear hW B_6 Za_7 Ze_8 Jm_0
 have j0 := Ze_11.out.bx.c0
 have j1 := Ze_11.out.bx.c1
 refine bodyPost_ret (v := .agg #[.bool (!ga), .slice Aa na ca]) (by simp [results, Tryz.results179, go_sem, j0, j1]) rfl ?_
 exact RetN.of Ze_11.out Va.out (by rw [HRr.out]; exact B_9.out)
theorem rneg_z {g : Bool} {A : Option Addr} {n c : Nat} {xs : List Nat} {w : World} {z : Int} (h : Sl w w.heap.size A n c xs) (ho : ov g xs = some z) :
 Calls Tryz.prog 179 #[.agg #[.bool g, .slice A n c]] w (RetN (-z) w) := by
 have l := ov_len0 h ho
 by_cases hz : z = 0
 . subst hz
   exact rneg_0 g A n c xs w h (-0) ho (by rw [l]; rfl)
 . exact rneg_1 g A n c xs w h (-z) (ov_flip h ho hz) (by rw [l, decide_eq_false hz])
theorem rlow_f (Aa Ab : Option Addr) (na ca nb cb : Nat) (xsa xsb : List Nat) (ga : Bool) (w : World) (ha : Sl w w.heap.size Aa na ca xsa) (hb : Sl w w.heap.size Ab nb cb xsb) (a b xN xD : Int) (ha2 : ov ga xsa = some a) (hb2 : ov false xsb = some b) (x : Rat) (hx : x.num = xN /\ (x.den : Int) = xD) (hd : gcdZ a b ≠ 0 /\ fq a (gcdZ a b) = xN /\ fr a (gcdZ a b) = 0 /\ xN.natAbs < BIG /\ fq b (gcdZ a b) = xD /\ fr b (gcdZ a b) = 0 /\ xD.natAbs < BIG) :
 Calls Tryz.prog 152 #[.agg #[.bool ga, .slice Aa na ca], .agg #[.bool false, .slice Ab nb cb]] w (RetW x w) := by
 have HX := hI hx
 clear hx
 have Va := hI ha2
 have Vb := hI hb2
 have HD := hI hd
 clear ha2 hb2 hd
 have Ja_0 := hI ha
 clear ha
 have Jb_0 := hI hb
 clear hb
 have B_0 : Hid (Below w.heap.size w w) := hI (Below.refl _ _)
 go_enter Tryz.func152, Tryz.ntmps152
 go_wp2_with fail
 generalize hW : World.alloc w _ = W1
 have hn := below_new w (.cells #[.bool ga, .slice Aa na ca] 25)
 rw [hW] at hn
 have hz : W1.heap.size = w.heap.size + 1 := by rw [<- hW]; simp
 have hx : Ba W1 w.heap.size ga Aa na ca xsa := by rw [<- hW]; exact ⟨Bx.new w _ _ _ _, Ja_0.out.on (below_new _ _)⟩
 have Jb_1 := hI (Jb_0.out.on hn)
 have B_2 := hI (below_chain B_0.out B_0.out.size hn)
 generalize hr : w.heap.size = r at *
 have HRr := hI hr
 clear hr
 have Za_3 : Hid (Ba W1 r ga Aa na ca xsa) := hI hx
 have HT3 := hz
 clear hn hx hz hW Jb_0 B_0 Ja_0
 generalize hW : World.alloc W1 _ = W4
 have hn := below_new W1 (.cells #[.bool false, .slice Ab nb cb] 25)
 rw [hW] at hn
 have hz : W4.heap.size = W1.heap.size + 1 := by rw [<- hW]; simp
 have hx : Ba W4 W1.heap.size false Ab nb cb xsb := by rw [<- hW]; exact ⟨Bx.new W1 _ _ _ _, Jb_1.out.on (below_new _ _)⟩
 have hlt : r < W1.heap.size := Za_3.out.bx.lt
 have B_4 := hI (bch B_2.out HRr.out hn)
 have Za_5 := hI (Za_3.out.on hn)
 rw [HT3] at hx hz hlt
 have Zb_6 : Hid (Ba W4 (r + 1) false Ab nb cb xsb) := hI hx
 have HT6 := hz
 clear hn hx hz hW hlt B_2 Za_3 Jb_1
 generalize hW : World.alloc W4 _ = W7
 have hn := below_new W4 (.cells #[.bool false, .slice none 0 0, .bool false, .slice none 0 0] 27)
 rw [hW] at hn
 have hx : Rb W7 W4.heap.size RVal.nil := by rw [<- hW]; exact Rb.new (q := RVal.nil) (RVal.nil_in W4)
 have hlt : (r + 1) < W4.heap.size := Zb_6.out.bx.lt
 have B_7 := hI (bch B_4.out HRr.out hn)
 have Za_8 := hI (Za_5.out.on hn)
 have Zb_9 := hI (Zb_6.out.on hn)
 rw [HT6] at hx hlt
 have Xe_10 : Hid (Rb W7 (r + 1 + 1) RVal.nil) := hI hx
 clear hn hx hW hlt B_4 Za_5 Zb_6
 obtain ⟨ka0, ka1⟩ := Za_8.out.cs
 have la := Za_8.out.bx.lt
 obtain ⟨kb0, kb1⟩ := Zb_9.out.cs
 have lb := Zb_9.out.bx.lt
 clear HT3 HT6
 refine (rgcd_z Za_8.out.sl Zb_9.out.sl Va.out Vb.out).mono ?_
 clear ka0 ka1 la kb0 kb1 lb
 rintro e w11 ⟨gd, Ad, nd, cd, xsd, rfl, hs, ho, hb⟩
 have B_11 := hI (bch B_7.out HRr.out hb)
 have Za_12 := hI (Za_8.out.on hb)
 have Zb_13 := hI (Zb_9.out.on hb)
 have Xe_14 := hI (Xe_10.out.on hb)
 have Jd_15 : Hid (Sl w11 w11.heap.size Ad nd cd xsd) := hI hs
 clear hb B_7 Za_8 Zb_9 Xe_10 hs
 have Vd := hI ho
 clear ho
 obtain ⟨ka0, ka1⟩ := Za_12.out.cs
 have la := Za_12.out.bx.lt
 obtain ⟨kb0, kb1⟩ := Zb_13.out.cs
 have lb := Zb_13.out.bx.lt
 go_wp2_with fail
 generalize hW : World.alloc w11 _ = W16
 have hn := below_new w11 (.cells #[.bool gd, .slice Ad nd cd] 25)
 rw [hW] at hn
 have hx : Ba W16 w11.heap.size gd Ad nd cd xsd := by rw [<- hW]; exact ⟨Bx.new w11 _ _ _ _, Jd_15.out.on (below_new _ _)⟩
 have hlt : (r + 1 + 1) < w11.heap.size := Xe_14.out.lt
 have B_16 := hI (bch B_11.out HRr.out hn)
 have Za_17 := hI (Za_12.out.on hn)
 have Zb_18 := hI (Zb_13.out.on hn)
 have Xe_19 := hI (Xe_14.out.on hn)
 generalize hbb : w11.heap.size = b1 at *
 clear hbb
 have Zd_20 : Hid (Ba W16 b1 gd Ad nd cd xsd) := hI hx
 have O20 := hI hlt
 clear hn hx hW hlt B_11 Za_12 Zb_13 Xe_14 Jd_15
 have Va2 := Va
 have Vb2 := Vb
 refine (rdivMod_z Za_17.out.sl Zd_20.out.sl Va2.out Vd.out HD.out.1 xN 0 HD.out.2.1 HD.out.2.2.1 HD.out.2.2.2.1).mono ?_
 clear ka0 ka1 la kb0 kb1 lb
 rintro e w21 ⟨gx, Ax, nx, cx, xsx, gy, Ay, ny, cy, xsy, rfl, hs, ho, hs2, ho2, hb⟩
 have B_21 := hI (bch B_16.out HRr.out hb)
 have Za_22 := hI (Za_17.out.on hb)
 have Zb_23 := hI (Zb_18.out.on hb)
 have Xe_24 := hI (Xe_19.out.on hb)
 have Zd_25 := hI (Zd_20.out.on hb)
 have Jx_26 : Hid (Sl w21 w21.heap.size Ax nx cx xsx) := hI hs
 have Jy_27 : Hid (Sl w21 w21.heap.size Ay ny cy xsy) := hI hs2
 clear hb B_16 Za_17 Zb_18 Xe_19 Zd_20 hs hs2
 have Vx := hI ho
 have Vy := hI ho2
 clear ho ho2
 obtain ⟨kb0, kb1⟩ := ((Zb_23.out.on (below_new w21 (.cells #[.bool gx, .slice Ax nx cx] 25))).on (below_new (w21.alloc (.cells #[.bool gx, .slice Ax nx cx] 25)) (.cells #[.bool gy, .slice Ay ny cy] 25))).cs
 have lb := Zb_23.out.bx.lt
 obtain ⟨kd0, kd1⟩ := ((Zd_25.out.on (below_new w21 (.cells #[.bool gx, .slice Ax nx cx] 25))).on (below_new (w21.alloc (.cells #[.bool gx, .slice Ax nx cx] 25)) (.cells #[.bool gy, .slice Ay ny cy] 25))).cs
 have ld := Zd_25.out.bx.lt
 go_wp2_with fail
 generalize hW : World.alloc w21 _ = W28
 have hn := below_new w21 (.cells #[.bool gx, .slice Ax nx cx] 25)
 rw [hW] at hn
 have hz : W28.heap.size = w21.heap.size + 1 := by rw [<- hW]; simp
 have hx : Ba W28 w21.heap.size gx Ax nx cx xsx := by rw [<- hW]; exact ⟨Bx.new w21 _ _ _ _, Jx_26.out.on (below_new _ _)⟩
 have hlt : b1 < w21.heap.size := Zd_25.out.bx.lt
 have B_28 := hI (bch B_21.out HRr.out hn)
 have Za_29 := hI (Za_22.out.on hn)
 have Zb_30 := hI (Zb_23.out.on hn)
 have Xe_31 := hI (Xe_24.out.on hn)
 have Zd_32 := hI (Zd_25.out.on hn)
 have Jy_33 := hI (Jy_27.out.on hn)
 generalize hbb : w21.heap.size = b2 at *
 clear hbb
 have Zx_34 : Hid (Ba W28 b2 gx Ax nx cx xsx) := hI hx
 have HT34 := hz
 have O34 := hI hlt
 clear hn hx hz hW hlt B_21 Za_22 Zb_23 Xe_24 Zd_25 Jy_27 Jx_26
 generalize hW : World.alloc W28 _ = W35
 have hn := below_new W28 (.cells #[.bool gy, .slice Ay ny cy] 25)
 rw [hW] at hn
 have hx : Ba W35 W28.heap.size gy Ay ny cy xsy := by rw [<- hW]; exact ⟨Bx.new W28 _ _ _ _, Jy_33.out.on (below_new _ _)⟩
 have hlt : b2 < W28.heap.size := Zx_34.out.bx.lt
 have B_35 := hI (bch B_28.out HRr.out hn)
 have Za_36 := hI (Za_29.out.on hn)
 have Zb_37 := hI (Zb_30.out.on hn)
 have Xe_38 := hI (Xe_31.out.on hn)
 have Zd_39 := hI (Zd_32.out.on hn)
 have Zx_40 := hI (Zx_34.out.on hn)
 rw [HT34] at hx hlt
 have Zy_41 : Hid (Ba W35 (b2 + 1) gy Ay ny cy xsy) := hI hx
 clear hn hx hW hlt B_28 Za_29 Zb_30 Xe_31 Zd_32 Zx_34 Jy_33
 clear HT34
 refine (rdivMod_z Zb_37.out.sl Zd_39.out.sl Vb2.out Vd.out HD.out.1 xD 0 HD.out.2.2.2.2.1 HD.out.2.2.2.2.2.1 HD.out.2.2.2.2.2.2).mono ?_
 clear kb0 kb1 lb kd0 kd1 ld
 rintro e w42 ⟨gu, Au, nu, cu, xsu, gv, Av, nv, cv, xsv, rfl, hs, ho, hs2, ho2, hb⟩
 have B_42 := hI (bch B_35.out HRr.out hb)
 have Za_43 := hI (Za_36.out.on hb)
 have Zb_44 := hI (Zb_37.out.on hb)
 have Xe_45 := hI (Xe_38.out.on hb)
 have Zd_46 := hI (Zd_39.out.on hb)
 have Zx_47 := hI (Zx_40.out.on hb)
 have Zy_48 := hI (Zy_41.out.on hb)
 have Ju_49 : Hid (Sl w42 w42.heap.size Au nu cu xsu) := hI hs
 have Jv_50 : Hid (Sl w42 w42.heap.size Av nv cv xsv) := hI hs2
 clear hb B_35 Za_36 Zb_37 Xe_38 Zd_39 Zx_40 Zy_41 hs hs2
 have Vu := hI ho
 have Vv := hI ho2
 clear ho ho2
 obtain ⟨kx0, kx1⟩ := ((Zx_47.out.on (below_new w42 (.cells #[.bool gu, .slice Au nu cu] 25))).on (below_new (w42.alloc (.cells #[.bool gu, .slice Au nu cu] 25)) (.cells #[.bool gv, .slice Av nv cv] 25))).cs
 have lx := Zx_47.out.bx.lt
 obtain ⟨ke0, ke1, ke2, ke3⟩ := ((Xe_45.out.on (below_new w42 (.cells #[.bool gu, .slice Au nu cu] 25))).on (below_new (w42.alloc (.cells #[.bool gu, .slice Au nu cu] 25)) (.cells #[.bool gv, .slice Av nv cv] 25))).cs
 obtain ⟨fe0, fe1, fe2, fe3⟩ := ((Xe_45.out.on (below_new w42 (.cells #[.bool gu, .slice Au nu cu] 25))).on (below_new (w42.alloc (.cells #[.bool gu, .slice Au nu cu] 25)) (.cells #[.bool gv, .slice Av nv cv] 25))).fs
 simp only [RVal.nil] at ke0 ke1 ke2 ke3
 have le := Xe_45.out.lt
 have nxe : b2 ≠ (r + 1 + 1) := by have := O20.out; have := O34.out; omega
 have nex := nxe.symm
 go_wp2
 clear kx0 kx1 lx ke0 ke1 ke2 ke3 fe0 fe1 fe2 fe3 le nxe nex
 generalize hW : World.alloc w42 _ = W51
 have hn := below_new w42 (.cells #[.bool gu, .slice Au nu cu] 25)
 rw [hW] at hn
 have hz : W51.heap.size = w42.heap.size + 1 := by rw [<- hW]; simp
 have hx : Ba W51 w42.heap.size gu Au nu cu xsu := by rw [<- hW]; exact ⟨Bx.new w42 _ _ _ _, Ju_49.out.on (below_new _ _)⟩
 have hlt : (b2 + 1) < w42.heap.size := Zy_48.out.bx.lt
 have B_51 := hI (bch B_42.out HRr.out hn)
 have Za_52 := hI (Za_43.out.on hn)
 have Zb_53 := hI (Zb_44.out.on hn)
 have Xe_54 := hI (Xe_45.out.on hn)
 have Zd_55 := hI (Zd_46.out.on hn)
 have Zx_56 := hI (Zx_47.out.on hn)
 have Zy_57 := hI (Zy_48.out.on hn)
 have Jv_58 := hI (Jv_50.out.on hn)
 generalize hbb : w42.heap.size = b3 at *
 clear hbb
 have Zu_59 : Hid (Ba W51 b3 gu Au nu cu xsu) := hI hx
 have HT59 := hz
 have O59 := hI hlt
 clear hn hx hz hW hlt B_42 Za_43 Zb_44 Xe_45 Zd_46 Zx_47 Zy_48 Jv_50 Ju_49
 generalize hW : World.alloc W51 _ = W60
 have hn := below_new W51 (.cells #[.bool gv, .slice Av nv cv] 25)
 rw [hW] at hn
 have hx : Ba W60 W51.heap.size gv Av nv cv xsv := by rw [<- hW]; exact ⟨Bx.new W51 _ _ _ _, Jv_58.out.on (below_new _ _)⟩
 have hlt : b3 < W51.heap.size := Zu_59.out.bx.lt
 have B_60 := hI (bch B_51.out HRr.out hn)
 have Za_61 := hI (Za_52.out.on hn)
 have Zb_62 := hI (Zb_53.out.on hn)
 have Xe_63 := hI (Xe_54.out.on hn)
 have Zd_64 := hI (Zd_55.out.on hn)
 have Zx_65 := hI (Zx_56.out.on hn)
 have Zy_66 := hI (Zy_57.out.on hn)
 have Zu_67 := hI (Zu_59.out.on hn)
 rw [HT59] at hx hlt
 have Zv_68 : Hid (Ba W60 (b3 + 1) gv Av nv cv xsv) := hI hx
 clear hn hx hW hlt B_51 Za_52 Zb_53 Xe_54 Zd_55 Zx_56 Zy_57 Zu_59 Jv_58
 have Ik_0 : Hid ((⟨gx, Ax, nx, cx, xsx, gu, Au, nu, cu, xsu⟩ : RVal).In W60) := hI ⟨Zx_65.out.sl, Zu_67.out.sl⟩
 generalize hW : World.setCell (World.setCell (World.setCell (World.setCell W60 _ _) _ _) _ _) _ _ = W69
 have B_69 : Hid (Below r w W69) := by rw [<- hW]; exact hI (below_put4 B_60.out (by omega) _ _ _ _)
 have Za_70 : Hid (Ba W69 r ga Aa na ca xsa) := by rw [<- hW]; exact hI (Za_61.out.pass Xe_63.out (by omega) _ _ _ _)
 have Zb_71 : Hid (Ba W69 (r + 1) false Ab nb cb xsb) := by rw [<- hW]; exact hI (Zb_62.out.pass Xe_63.out (by omega) _ _ _ _)
 have Xe_72 : Hid (Rb W69 (r + 1 + 1) (⟨gx, Ax, nx, cx, xsx, gu, Au, nu, cu, xsu⟩ : RVal)) := by rw [<- hW]; exact hI (Rb.put (q' := (⟨gx, Ax, nx, cx, xsx, gu, Au, nu, cu, xsu⟩ : RVal)) Xe_63.out Ik_0.out)
 have Zd_73 : Hid (Ba W69 b1 gd Ad nd cd xsd) := by rw [<- hW]; exact hI (Zd_64.out.pass Xe_63.out (by have := O20.out; omega) _ _ _ _)
 have Zx_74 : Hid (Ba W69 b2 gx Ax nx cx xsx) := by rw [<- hW]; exact hI (Zx_65.out.pass Xe_63.out (by have := O20.out; have := O34.out; omega) _ _ _ _)
 have Zy_75 : Hid (Ba W69 (b2 + 1) gy Ay ny cy xsy) := by rw [<- hW]; exact hI (Zy_66.out.pass Xe_63.out (by have := O20.out; have := O34.out; omega) _ _ _ _)
 have Zu_76 : Hid (Ba W69 b3 gu Au nu cu xsu) := by rw [<- hW]; exact hI (Zu_67.out.pass Xe_63.out (by have := O20.out; have := O34.out; have := O59.out; omega) _ _ _ _)
 have Zv_77 : Hid (Ba W69 (b3 + 1) gv Av nv cv xsv) := by rw [<- hW]; exact hI (Zv_68.out.pass Xe_63.out (by have := O20.out; have := O34.out; have := O59.out; omega) _ _ _ _)
 clear hW B_60 Za_61 Zb_62 Xe_63 Zd_64 Zx_65 Zy_66 Zu_67 Zv_68 Ik_0
 have j0 := Xe_72.out.c0
 have j1 := Xe_72.out.c1
 have j2 := Xe_72.out.c2
 have j3 := Xe_72.out.c3
 try dsimp only at j0 j1 j2 j3
 refine bodyPost_ret (v := .agg #[.bool (gx), .slice Ax nx cx, .bool (gu), .slice Au nu cu]) (by simp [results, Tryz.results152, go_sem, j0, j1, j2, j3]) rfl ?_
 exact RetW.of Xe_72.out (show rv (ov gx xsx) (ov gu xsu) = some x by rw [Vx.out, Vu.out, <- HX.out.1, <- HX.out.2]; exact rv_of x) (by rw [HRr.out]; exact B_69.out)
theorem rlow_t (Aa Ab : Option Addr) (na ca nb cb : Nat) (xsa xsb : List Nat) (ga : Bool) (w : World) (ha : Sl w w.heap.size Aa na ca xsa) (hb : Sl w w.heap.size Ab nb cb xsb) (a b xN xD : Int) (ha2 : ov ga xsa = some a) (hb2 : ov true xsb = some b) (x : Rat) (hx : x.num = xN /\ (x.den : Int) = xD) (hd : gcdZ a b ≠ 0 /\ fq (-a) (gcdZ a b) = xN /\ fr (-a) (gcdZ a b) = 0 /\ xN.natAbs < BIG /\ fq (-b) (gcdZ a b) = xD /\ fr (-b) (gcdZ a b) = 0 /\ xD.natAbs < BIG) :
 Calls Tryz.prog 152 #[.agg #[.bool ga, .slice Aa na ca], .agg #[.bool true, .slice Ab nb cb]] w (RetW x w) := by
 have HX := hI hx
 clear hx
 have Va := hI ha2
 have Vb := hI hb2
 have HD := hI hd
 clear ha2 hb2 hd
 have Ja_0 := hI ha
 clear ha
 have Jb_0 := hI hb
 clear hb
 have B_0 : Hid (Below w.heap.size w w) := hI (Below.refl _ _)
 go_enter Tryz.func152, Tryz.ntmps152
 go_wp2_with fail
 generalize hW : World.alloc w _ = W1
 have hn := below_new w (.cells #[.bool ga, .slice Aa na ca] 25)
 rw [hW] at hn
 have hz : W1.heap.size = w.heap.size + 1 := by rw [<- hW]; simp
 have hx : Ba W1 w.heap.size ga Aa na ca xsa := by rw [<- hW]; exact ⟨Bx.new w _ _ _ _, Ja_0.out.on (below_new _ _)⟩
 have Jb_1 := hI (Jb_0.out.on hn)
 have B_2 := hI (below_chain B_0.out B_0.out.size hn)
 generalize hr : w.heap.size = r at *
 have HRr := hI hr
 clear hr
 have Za_3 : Hid (Ba W1 r ga Aa na ca xsa) := hI hx
 have HT3 := hz
 clear hn hx hz hW Jb_0 B_0 Ja_0
 generalize hW : World.alloc W1 _ = W4
 have hn := below_new W1 (.cells #[.bool true, .slice Ab nb cb] 25)
 rw [hW] at hn
 have hz : W4.heap.size = W1.heap.size + 1 := by rw [<- hW]; simp
 have hx : Ba W4 W1.heap.size true Ab nb cb xsb := by rw [<- hW]; exact ⟨Bx.new W1 _ _ _ _, Jb_1.out.on (below_new _ _)⟩
 have hlt : r < W1.heap.size := Za_3.out.bx.lt
 have B_4 := hI (bch B_2.out HRr.out hn)
 have Za_5 := hI (Za_3.out.on hn)
 rw [HT3] at hx hz hlt
 have Zb_6 : Hid (Ba W4 (r + 1) true Ab nb cb xsb) := hI hx
 have HT6 := hz
 clear hn hx hz hW hlt B_2 Za_3 Jb_1
 generalize hW : World.alloc W4 _ = W7
 have hn := below_new W4 (.cells #[.bool false, .slice none 0 0, .bool false, .slice none 0 0] 27)
 rw [hW] at hn
 have hx : Rb W7 W4.heap.size RVal.nil := by rw [<- hW]; exact Rb.new (q := RVal.nil) (RVal.nil_in W4)
 have hlt : (r + 1) < W4.heap.size := Zb_6.out.bx.lt
 have B_7 := hI (bch B_4.out HRr.out hn)
 have Za_8 := hI (Za_5.out.on hn)
 have Zb_9 := hI (Zb_6.out.on hn)
 rw [HT6] at hx hlt
 have Xe_10 : Hid (Rb W7 (r + 1 + 1) RVal.nil) := hI hx
 clear hn hx hW hlt B_4 Za_5 Zb_6
 obtain ⟨ka0, ka1⟩ := Za_8.out.cs
 have la := Za_8.out.bx.lt
 obtain ⟨kb0, kb1⟩ := Zb_9.out.cs
 have lb := Zb_9.out.bx.lt
 clear HT3 HT6
 refine (rgcd_z Za_8.out.sl Zb_9.out.sl Va.out Vb.out).mono ?_
 clear ka0 ka1 la kb0 kb1 lb
 rintro e w11 ⟨gd, Ad, nd, cd, xsd, rfl, hs, ho, hb⟩
 have B_11 := hI (bch B_7.out HRr.out hb)
 have Za_12 := hI (Za_8.out.on hb)
 have Zb_13 := hI (Zb_9.out.on hb)
 have Xe_14 := hI (Xe_10.out.on hb)
 have Jd_15 : Hid (Sl w11 w11.heap.size Ad nd cd xsd) := hI hs
 clear hb B_7 Za_8 Zb_9 Xe_10 hs
 have Vd := hI ho
 clear ho
 obtain ⟨ka0, ka1⟩ := Za_12.out.cs
 have la := Za_12.out.bx.lt
 obtain ⟨kb0, kb1⟩ := Zb_13.out.cs
 have lb := Zb_13.out.bx.lt
 go_wp2_with fail
 generalize hW : World.alloc w11 _ = W16
 have hn := below_new w11 (.cells #[.bool gd, .slice Ad nd cd] 25)
 rw [hW] at hn
 have hx : Ba W16 w11.heap.size gd Ad nd cd xsd := by rw [<- hW]; exact ⟨Bx.new w11 _ _ _ _, Jd_15.out.on (below_new _ _)⟩
 have hlt : (r + 1 + 1) < w11.heap.size := Xe_14.out.lt
 have B_16 := hI (bch B_11.out HRr.out hn)
 have Za_17 := hI (Za_12.out.on hn)
 have Zb_18 := hI (Zb_13.out.on hn)
 have Xe_19 := hI (Xe_14.out.on hn)
 generalize hbb : w11.heap.size = b1 at *
 clear hbb
 have Zd_20 : Hid (Ba W16 b1 gd Ad nd cd xsd) := hI hx
 have O20 := hI hlt
 clear hn hx hW hlt B_11 Za_12 Zb_13 Xe_14 Jd_15
 refine (rneg_z Za_17.out.sl Va.out).mono ?_
 clear ka0 ka1 la kb0 kb1 lb
 rintro e w21 ⟨gp, Ap, np, cp, xsp, rfl, hs, ho, hb⟩
 have B_21 := hI (bch B_16.out HRr.out hb)
 have Za_22 := hI (Za_17.out.on hb)
 have Zb_23 := hI (Zb_18.out.on hb)
 have Xe_24 := hI (Xe_19.out.on hb)
 have Zd_25 := hI (Zd_20.out.on hb)
 have Jp_26 : Hid (Sl w21 w21.heap.size Ap np cp xsp) := hI hs
 clear hb B_16 Za_17 Zb_18 Xe_19 Zd_20 hs
 have Vp := hI ho
 clear ho
 obtain ⟨ka0, ka1⟩ := Za_22.out.cs
 obtain ⟨fa0, fa1⟩ := Za_22.out.fs
 have la := Za_22.out.bx.lt
 obtain ⟨kb0, kb1⟩ := Zb_23.out.cs
 obtain ⟨fb0, fb1⟩ := Zb_23.out.fs
 have lb := Zb_23.out.bx.lt
 have nab : r ≠ (r + 1) := by omega
 have nba := nab.symm
 go_wp2_with fail
 generalize hW : World.setCell (World.setCell w21 _ _) _ _ = W27
 have B_27 : Hid (Below r w W27) := by rw [<- hW]; exact hI (below_ret B_21.out (by omega) _ _)
 have Za_28 : Hid (Ba W27 r gp Ap np cp xsp) := by rw [<- hW]; exact hI (Za_22.out.stored Jp_26.out _)
 have Zb_29 : Hid (Ba W27 (r + 1) true Ab nb cb xsb) := by rw [<- hW]; exact hI (Zb_23.out.aside Za_22.out (by omega) _ _)
 have Xe_30 : Hid (Rb W27 (r + 1 + 1) RVal.nil) := by rw [<- hW]; exact hI (Xe_24.out.aside Za_22.out (by omega) _ _)
 have Zd_31 : Hid (Ba W27 b1 gd Ad nd cd xsd) := by rw [<- hW]; exact hI (Zd_25.out.aside Za_22.out (by have := O20.out; omega) _ _)
 clear hW B_21 Za_22 Zb_23 Xe_24 Zd_25 Jp_26
 have Va2 := Vp
 refine (rneg_z Zb_29.out.sl Vb.out).mono ?_
 clear ka0 ka1 fa0 fa1 la kb0 kb1 fb0 fb1 lb nab nba
 rintro e w32 ⟨gq, Aq, nq, cq, xsq, rfl, hs, ho, hb⟩
 have B_32 := hI (bch B_27.out HRr.out hb)
 have Za_33 := hI (Za_28.out.on hb)
 have Zb_34 := hI (Zb_29.out.on hb)
 have Xe_35 := hI (Xe_30.out.on hb)
 have Zd_36 := hI (Zd_31.out.on hb)
 have Jq_37 : Hid (Sl w32 w32.heap.size Aq nq cq xsq) := hI hs
 clear hb B_27 Za_28 Zb_29 Xe_30 Zd_31 hs
 have Vq := hI ho
 clear ho
 obtain ⟨ka0, ka1⟩ := Za_33.out.cs
 obtain ⟨fa0, fa1⟩ := Za_33.out.fs
 have la := Za_33.out.bx.lt
 obtain ⟨kb0, kb1⟩ := Zb_34.out.cs
 obtain ⟨fb0, fb1⟩ := Zb_34.out.fs
 have lb := Zb_34.out.bx.lt
 obtain ⟨kd0, kd1⟩ := Zd_36.out.cs
 obtain ⟨fd0, fd1⟩ := Zd_36.out.fs
 have ld := Zd_36.out.bx.lt
 have nab : r ≠ (r + 1) := by omega
 have nba := nab.symm
 have nad : r ≠ b1 := by have := O20.out; omega
 have nda := nad.symm
 have nbd : (r + 1) ≠ b1 := by have := O20.out; omega
 have ndb := nbd.symm
 go_wp2_with fail
 generalize hW : World.setCell (World.setCell w32 _ _) _ _ = W38
 have B_38 : Hid (Below r w W38) := by rw [<- hW]; exact hI (below_ret B_32.out (by omega) _ _)
 have Za_39 : Hid (Ba W38 r gp Ap np cp xsp) := by rw [<- hW]; exact hI (Za_33.out.aside Zb_34.out (by omega) _ _)
 have Zb_40 : Hid (Ba W38 (r + 1) gq Aq nq cq xsq) := by rw [<- hW]; exact hI (Zb_34.out.stored Jq_37.out _)
 have Xe_41 : Hid (Rb W38 (r + 1 + 1) RVal.nil) := by rw [<- hW]; exact hI (Xe_35.out.aside Zb_34.out (by omega) _ _)
 have Zd_42 : Hid (Ba W38 b1 gd Ad nd cd xsd) := by rw [<- hW]; exact hI (Zd_36.out.aside Zb_34.out (by have := O20.out; omega) _ _)
 clear hW B_32 Za_33 Zb_34 Xe_35 Zd_36 Jq_37
 have Vb2 := Vq
 refine (rdivMod_z Za_39.out.sl Zd_42.out.sl Va2.out Vd.out HD.out.1 xN 0 HD.out.2.1 HD.out.2.2.1 HD.out.2.2.2.1).mono ?_
 clear ka0 ka1 fa0 fa1 la kb0 kb1 fb0 fb1 lb kd0 kd1 fd0 fd1 ld nab nba nad nda nbd ndb
 rintro e w43 ⟨gx, Ax, nx, cx, xsx, gy, Ay, ny, cy, xsy, rfl, hs, ho, hs2, ho2, hb⟩
 have B_43 := hI (bch B_38.out HRr.out hb)
 have Za_44 := hI (Za_39.out.on hb)
 have Zb_45 := hI (Zb_40.out.on hb)
 have Xe_46 := hI (Xe_41.out.on hb)
 have Zd_47 := hI (Zd_42.out.on hb)
 have Jx_48 : Hid (Sl w43 w43.heap.size Ax nx cx xsx) := hI hs
 have Jy_49 : Hid (Sl w43 w43.heap.size Ay ny cy xsy) := hI hs2
 clear hb B_38 Za_39 Zb_40 Xe_41 Zd_42 hs hs2
 have Vx := hI ho
 have Vy := hI ho2
 clear ho ho2
 obtain ⟨kb0, kb1⟩ := ((Zb_45.out.on (below_new w43 (.cells #[.bool gx, .slice Ax nx cx] 25))).on (below_new (w43.alloc (.cells #[.bool gx, .slice Ax nx cx] 25)) (.cells #[.bool gy, .slice Ay ny cy] 25))).cs
 have lb := Zb_45.out.bx.lt
 obtain ⟨kd0, kd1⟩ := ((Zd_47.out.on (below_new w43 (.cells #[.bool gx, .slice Ax nx cx] 25))).on (below_new (w43.alloc (.cells #[.bool gx, .slice Ax nx cx] 25)) (.cells #[.bool gy, .slice Ay ny cy] 25))).cs
 have ld := Zd_47.out.bx.lt
 go_wp2_with fail
 generalize hW : World.alloc w43 _ = W50
 have hn := below_new w43 (.cells #[.bool gx, .slice Ax nx cx] 25)
 rw [hW] at hn
 have hz : W50.heap.size = w43.heap.size + 1 := by rw [<- hW]; simp
 have hx : Ba W50 w43.heap.size gx Ax nx cx xsx := by rw [<- hW]; exact ⟨Bx.new w43 _ _ _ _, Jx_48.out.on (below_new _ _)⟩
 have hlt : b1 < w43.heap.size := Zd_47.out.bx.lt
 have B_50 := hI (bch B_43.out HRr.out hn)
 have Za_51 := hI (Za_44.out.on hn)
 have Zb_52 := hI (Zb_45.out.on hn)
 have Xe_53 := hI (Xe_46.out.on hn)
 have Zd_54 := hI (Zd_47.out.on hn)
 have Jy_55 := hI (Jy_49.out.on hn)
 generalize hbb : w43.heap.size = b2 at *
 clear hbb
 have Zx_56 : Hid (Ba W50 b2 gx Ax nx cx xsx) := hI hx
 have HT56 := hz
 have O56 := hI hlt
 clear hn hx hz hW hlt B_43 Za_44 Zb_45 Xe_46 Zd_47 Jy_49 Jx_48
 generalize hW : World.alloc W50 _ = W57
 have hn := below_new W50 (.cells #[.bool gy, .slice Ay ny cy] 25)
 rw [hW] at hn
 have hx : Ba W57 W50.heap.size gy Ay ny cy xsy := by rw [<- hW]; exact ⟨Bx.new W50 _ _ _ _, Jy_55.out.on (below_new _ _)⟩
 have hlt : b2 < W50.heap.size := Zx_56.out.bx.lt
 have B_57 := hI (bch B_50.out HRr.out hn)
 have Za_58 := hI (Za_51.out.on hn)
 have Zb_59 := hI (Zb_52.out.on hn)
 have Xe_60 := hI (Xe_53.out.on hn)
 have Zd_61 := hI (Zd_54.out.on hn)
 have Zx_62 := hI (Zx_56.out.on hn)
 rw [HT56] at hx hlt
 have Zy_63 : Hid (Ba W57 (b2 + 1) gy Ay ny cy xsy) := hI hx
 clear hn hx hW hlt B_50 Za_51 Zb_52 Xe_53 Zd_54 Zx_56 Jy_55
 clear HT56
 refine (rdivMod_z Zb_59.out.sl Zd_61.out.sl Vb2.out Vd.out HD.out.1 xD 0 HD.out.2.2.2.2.1 HD.out.2.2.2.2.2.1 HD.out.2.2.2.2.2.2).mono ?_
 clear kb0 kb1 lb kd0 kd1 ld
 rintro e w64 ⟨gu, Au, nu, cu, xsu, gv, Av, nv, cv, xsv, rfl, hs, ho, hs2, ho2, hb⟩
 have B_64 := hI (bch B_57.out HRr.out hb)
 have Za_65 := hI (Za_58.out.on hb)
 have Zb_66 := hI (Zb_59.out.on hb)
 have Xe_67 := hI (Xe_60.out.on hb)
 have Zd_68 := hI (Zd_61.out.on hb)
 have Zx_69 := hI (Zx_62.out.on hb)
 have Zy_70 := hI (Zy_63.out.on hb)
 have Ju_71 : Hid (Sl w64 w64.heap.size Au nu cu xsu) := hI hs
 have Jv_72 : Hid (Sl w64 w64.heap.size Av nv cv xsv) := hI hs2
 clear hb B_57 Za_58 Zb_59 Xe_60 Zd_61 Zx_62 Zy_63 hs hs2
 have Vu := hI ho
 have Vv := hI ho2
 clear ho ho2
 obtain ⟨kx0, kx1⟩ := ((Zx_69.out.on (below_new w64 (.cells #[.bool gu, .slice Au nu cu] 25))).on (below_new (w64.alloc (.cells #[.bool gu, .slice Au nu cu] 25)) (.cells #[.bool gv, .slice Av nv cv] 25))).cs
 have lx := Zx_69.out.bx.lt
 obtain ⟨ke0, ke1, ke2, ke3⟩ := ((Xe_67.out.on (below_new w64 (.cells #[.bool gu, .slice Au nu cu] 25))).on (below_new (w64.alloc (.cells #[.bool gu, .slice Au nu cu] 25)) (.cells #[.bool gv, .slice Av nv cv] 25))).cs
 obtain ⟨fe0, fe1, fe2, fe3⟩ := ((Xe_67.out.on (below_new w64 (.cells #[.bool gu, .slice Au nu cu] 25))).on (below_new (w64.alloc (.cells #[.bool gu, .slice Au nu cu] 25)) (.cells #[.bool gv, .slice Av nv cv] 25))).fs
 simp only [RVal.nil] at ke0 ke1 ke2 ke3
 have le := Xe_67.out.lt
 have nxe : b2 ≠ (r + 1 + 1) := by have := O20.out; have := O56.out; omega
 have nex := nxe.symm
 go_wp2
 clear kx0 kx1 lx ke0 ke1 ke2 ke3 fe0 fe1 fe2 fe3 le nxe nex
 generalize hW : World.alloc w64 _ = W73
 have hn := below_new w64 (.cells #[.bool gu, .slice Au nu cu] 25)
 rw [hW] at hn
 have hz : W73.heap.size = w64.heap.size + 1 := by rw [<- hW]; simp
 have hx : Ba W73 w64.heap.size gu Au nu cu xsu := by rw [<- hW]; exact ⟨Bx.new w64 _ _ _ _, Ju_71.out.on (below_new _ _)⟩
 have hlt : (b2 + 1) < w64.heap.size := Zy_70.out.bx.lt
 have B_73 := hI (bch B_64.out HRr.out hn)
 have Za_74 := hI (Za_65.out.on hn)
 have Zb_75 := hI (Zb_66.out.on hn)
 have Xe_76 := hI (Xe_67.out.on hn)
 have Zd_77 := hI (Zd_68.out.on hn)
 have Zx_78 := hI (Zx_69.out.on hn)
 have Zy_79 := hI (Zy_70.out.on hn)
 have Jv_80 := hI (Jv_72.out.on hn)
 generalize hbb : w64.heap.size = b3 at *
 clear hbb
 have Zu_81 : Hid (Ba W73 b3 gu Au nu cu xsu) := hI hx
 have HT81 := hz
 have O81 := hI hlt
 clear hn hx hz hW hlt B_64 Za_65 Zb_66 Xe_67 Zd_68 Zx_69 Zy_70 Jv_72 Ju_71
 generalize hW : World.alloc W73 _ = W82
 have hn := below_new W73 (.cells #[.bool gv, .slice Av nv cv] 25)
 rw [hW] at hn
 have hx : Ba W82 W73.heap.size gv Av nv cv xsv := by rw [<- hW]; exact ⟨Bx.new W73 _ _ _ _, Jv_80.out.on (below_new _ _)⟩
 have hlt : b3 < W73.heap.size := Zu_81.out.bx.lt
 have B_82 := hI (bch B_73.out HRr.out hn)
 have Za_83 := hI (Za_74.out.on hn)
 have Zb_84 := hI (Zb_75.out.on hn)
 have Xe_85 := hI (Xe_76.out.on hn)
 have Zd_86 := hI (Zd_77.out.on hn)
 have Zx_87 := hI (Zx_78.out.on hn)
 have Zy_88 := hI (Zy_79.out.on hn)
 have Zu_89 := hI (Zu_81.out.on hn)
 rw [HT81] at hx hlt
 have Zv_90 : Hid (Ba W82 (b3 + 1) gv Av nv cv xsv) := hI hx
 clear hn hx hW hlt B_73 Za_74 Zb_75 Xe_76 Zd_77 Zx_78 Zy_79 Zu_81 Jv_80
 have Ik_0 : Hid ((⟨gx, Ax, nx, cx, xsx, gu, Au, nu, cu, xsu⟩ : RVal).In W82) := hI ⟨Zx_87.out.sl, Zu_89.out.sl⟩
 generalize hW : World.setCell (World.setCell (World.setCell (World.setCell W82 _ _) _ _) _ _) _ _ = W91
 have B_91 : Hid (Below r w W91) := by rw [<- hW]; exact hI (below_put4 B_82.out (by omega) _ _ _ _)
 have Za_92 : Hid (Ba W91 r gp Ap np cp xsp) := by rw [<- hW]; exact hI (Za_83.out.pass Xe_85.out (by omega) _ _ _ _)
 have Zb_93 : Hid (Ba W91 (r + 1) gq Aq nq cq xsq) := by rw [<- hW]; exact hI (Zb_84.out.pass Xe_85.out (by omega) _ _ _ _)
 have Xe_94 : Hid (Rb W91 (r + 1 + 1) (⟨gx, Ax, nx, cx, xsx, gu, Au, nu, cu, xsu⟩ : RVal)) := by rw [<- hW]; exact hI (Rb.put (q' := (⟨gx, Ax, nx, cx, xsx, gu, Au, nu, cu, xsu⟩ : RVal)) Xe_85.out Ik_0.out)
 have Zd_95 : Hid (Ba W91 b1 gd Ad nd cd xsd) := by rw [<- hW]; exact hI (Zd_86.out.pass Xe_85.out (by have := O20.out; omega) _ _ _ _)
 have Zx_96 : Hid (Ba W91 b2 gx Ax nx cx xsx) := by rw [<- hW]; exact hI (Zx_87.out.pass Xe_85.out (by have := O20.out; have := O56.out; omega) _ _ _ _)
 have Zy_97 : Hid (Ba W91 (b2 + 1) gy Ay ny cy xsy) := by rw [<- hW]; exact hI (Zy_88.out.pass Xe_85.out (by have := O20.out; have := O56.out; omega) _ _ _ _)
 have Zu_98 : Hid (Ba W91 b3 gu Au nu cu xsu) := by rw [<- hW]; exact hI (Zu_89.out.pass Xe_85.out (by have := O20.out; have := O56.out; have := O81.out; omega) _ _ _ _)
 have Zv_99 : Hid (Ba W91 (b3 + 1) gv Av nv cv xsv) := by rw [<- hW]; exact hI (Zv_90.out.pass Xe_85.out (by have := O20.out; have := O56.out; have := O81.out; omega) _ _ _ _)
 clear hW B_82 Za_83 Zb_84 Xe_85 Zd_86 Zx_87 Zy_88 Zu_89 Zv_90 Ik_0
 have j0 := Xe_94.out.c0
 have j1 := Xe_94.out.c1
 have j2 := Xe_94.out.c2
 have j3 := Xe_94.out.c3
 try dsimp only at j0 j1 j2 j3
 refine bodyPost_ret (v := .agg #[.bool (gx), .slice Ax nx cx, .bool (gu), .slice Au nu cu]) (by simp [results, Tryz.results152, go_sem, j0, j1, j2, j3]) rfl ?_
 exact RetW.of Xe_94.out (show rv (ov gx xsx) (ov gu xsu) = some x by rw [Vx.out, Vu.out, <- HX.out.1, <- HX.out.2]; exact rv_of x) (by rw [HRr.out]; exact B_91.out)
theorem gcd_dvd (a b : Int) (hb : b ≠ 0) : gcdZ a b ≠ 0 /\ gcdZ a b ∣ a /\ gcdZ a b ∣ b := by
 have m := mk_num a b hb
 rcases Int.lt_or_gt_of_ne hb with h | h
 . rw [Int.sign_eq_neg_one_of_neg h] at m
   have e : -1 * gcdZ a b = -gcdZ a b := by omega
   rw [e] at m
   exact ⟨by omega, Int.neg_dvd.1 m.1, Int.neg_dvd.1 m.2.1⟩
 . rw [Int.sign_eq_one_of_pos h, Int.one_mul] at m
   exact ⟨m.2.2.2.2, m.1, m.2.1⟩
theorem rlow_z {g g' : Bool} {A A' : Option Addr} {n c n' c' : Nat} {xs ys : List Nat} {w : World} {a b : Int} (h : Sl w w.heap.size A n c xs) (h' : Sl w w.heap.size A' n' c' ys) (hx : ov g xs = some a) (hy : ov g' ys = some b) (hb : b ≠ 0) :
 Calls Tryz.prog 152 #[.agg #[.bool g, .slice A n c], .agg #[.bool g', .slice A' n' c']] w (RetW (Rat.divInt a b) w) := by
 have m := mk_num a b hb
 have d := gcd_dvd a b hb
 have l := divInt_le a b hb
 have l1 := ov_lt h.ok hx
 have l2 := ov_lt h'.ok hy
 have s := ov_sign hy
 have b1 : (Rat.divInt a b).num.natAbs < BIG := by omega
 have b2 : ((Rat.divInt a b).den : Int).natAbs < BIG := by rw [Int.natAbs_natCast]; omega
 rcases g' with _ | _
 . have hp : 0 < b := by have := of_decide_eq_false s; omega
   rw [Int.sign_eq_one_of_pos hp, Int.one_mul] at m
   have e1 := fq_exact d.1 d.2.1
   have e2 := fq_exact d.1 d.2.2
   exact rlow_f A A' n c n' c' xs ys g w h h' a b _ _ hx hy (Rat.divInt a b) ⟨rfl, rfl⟩ ⟨d.1, by rw [e1.1]; exact m.2.2.1, e1.2, b1, by rw [e2.1]; exact m.2.2.2.1, e2.2, b2⟩
 . have hp : b < 0 := of_decide_eq_true s
   rw [Int.sign_eq_neg_one_of_neg hp] at m
   have e : -1 * gcdZ a b = -gcdZ a b := by omega
   rw [e, Int.ediv_neg, Int.ediv_neg, <- Int.neg_ediv_of_dvd d.2.1, <- Int.neg_ediv_of_dvd d.2.2] at m
   have e1 := fq_exact d.1 (Int.dvd_neg.2 d.2.1)
   have e2 := fq_exact d.1 (Int.dvd_neg.2 d.2.2)
   exact rlow_t A A' n c n' c' xs ys g w h h' a b _ _ hx hy (Rat.divInt a b) ⟨rfl, rfl⟩ ⟨d.1, by rw [e1.1]; exact m.2.2.1, e1.2, b1, by rw [e2.1]; exact m.2.2.2.1, e2.2, b2⟩
end Go.Proofs.YtmncfbfepdbioaaGreatDoor
namespace Go.Proofs.YtmncfbfepdbioaaGreatDoor
open Go.RowKit
theorem rmake_b1 (ga : Bool) (Aa : Option Addr) (na ca : Nat) (xsa : List Nat) (gb : Bool) (Ab : Option Addr) (nb cb : Nat) (xsb : List Nat) (w : World) (ha : Sl w w.heap.size Aa na ca xsa) (hb : Sl w w.heap.size Ab nb cb xsb) (v : Bool) (h1 : (ov ga xsa).isSome = false) (h2 : (ov gb xsb).isSome = v) :
 Calls Tryz.prog 105 #[.agg #[.bool ga, .slice Aa na ca], .agg #[.bool gb, .slice Ab nb cb]] w (RetR 0 0 1 w) := by
 have H1 := hI h1
 have H2 := hI h2
 clear h1 h2
 have Ja_0 := hI ha
 clear ha
 have Jb_0 := hI hb
 clear hb
 have B_0 : Hid (Below w.heap.size w w) := hI (Below.refl _ _)
 go_enter Tryz.func105, Tryz.ntmps105
 go_wp2_with fail
 generalize hW : World.alloc w _ = W1
 have hn := below_new w (.cells #[.bool ga, .slice Aa na ca] 25)
 rw [hW] at hn
 have hz : W1.heap.size = w.heap.size + 1 := by rw [<- hW]; simp
 have hx : Ba W1 w.heap.size ga Aa na ca xsa := by rw [<- hW]; exact ⟨Bx.new w _ _ _ _, Ja_0.out.on (below_new _ _)⟩
 have Jb_1 := hI (Jb_0.out.on hn)
 have B_2 := hI (below_chain B_0.out B_0.out.size hn)
 generalize hr : w.heap.size = r at *
 have HRr := hI hr
 clear hr
 have Za_3 : Hid (Ba W1 r ga Aa na ca xsa) := hI hx
 have HT3 := hz
 clear hn hx hz hW Jb_0 B_0 Ja_0
 generalize hW : World.alloc W1 _ = W4
 have hn := below_new W1 (.cells #[.bool gb, .slice Ab nb cb] 25)
 rw [hW] at hn
 have hz : W4.heap.size = W1.heap.size + 1 := by rw [<- hW]; simp
 have hx : Ba W4 W1.heap.size gb Ab nb cb xsb := by rw [<- hW]; exact ⟨Bx.new W1 _ _ _ _, Jb_1.out.on (below_new _ _)⟩
 have hlt : r < W1.heap.size := Za_3.out.bx.lt
 have B_4 := hI (bch B_2.out HRr.out hn)
 have Za_5 := hI (Za_3.out.on hn)
 rw [HT3] at hx hz hlt
 have Zb_6 : Hid (Ba W4 (r + 1) gb Ab nb cb xsb) := hI hx
 have HT6 := hz
 clear hn hx hz hW hlt B_2 Za_3 Jb_1
 generalize hW : World.alloc W4 _ = W7
 have hn := below_new W4 (.cells #[.bool false, .slice none 0 0, .bool false, .slice none 0 0] 27)
 rw [hW] at hn
 have hx : Rb W7 W4.heap.size RVal.nil := by rw [<- hW]; exact Rb.new (q := RVal.nil) (RVal.nil_in W4)
 have hlt : (r + 1) < W4.heap.size := Zb_6.out.bx.lt
 have B_7 := hI (bch B_4.out HRr.out hn)
 have Za_8 := hI (Za_5.out.on hn)
 have Zb_9 := hI (Zb_6.out.on hn)
 rw [HT6] at hx hlt
 have Xe_10 : Hid (Rb W7 (r + 1 + 1) RVal.nil) := hI hx
 clear hn hx hW hlt B_4 Za_5 Zb_6
 clear HT3 HT6
 refine (rvalid_z Za_8.out.sl false H1.out).mono ?_
 rintro e w11 ⟨rfl, hb⟩
 have B_11 := hI (bch B_7.out HRr.out hb)
 have Za_12 := hI (Za_8.out.on hb)
 have Zb_13 := hI (Zb_9.out.on hb)
 have Xe_14 := hI (Xe_10.out.on hb)
 clear hb B_7 Za_8 Zb_9 Xe_10
 obtain ⟨kb0, kb1⟩ := Zb_13.out.cs
 have lb := Zb_13.out.bx.lt
 go_wp2_with fail
 refine (rvalid_z Zb_13.out.sl v H2.out).mono ?_
 clear kb0 kb1 lb
 rintro e w15 ⟨rfl, hb⟩
 have B_15 := hI (bch B_11.out HRr.out hb)
 have Za_16 := hI (Za_12.out.on hb)
 have Zb_17 := hI (Zb_13.out.on hb)
 have Xe_18 := hI (Xe_14.out.on hb)
 clear hb B_11 Za_12 Zb_13 Xe_14
 clear Za_16 Zb_17
 obtain ⟨ke0, ke1, ke2, ke3⟩ := Xe_18.out.cs
 obtain ⟨fe0, fe1, fe2, fe3⟩ := Xe_18.out.fs
 simp only [RVal.nil] at ke0 ke1 ke2 ke3
 have le := Xe_18.out.lt
 go_wp2
 clear ke0 ke1 ke2 ke3 fe0 fe1 fe2 fe3 le
 generalize hW : World.setCell (World.setCell (World.setCell (World.setCell w15 _ _) _ _) _ _) _ _ = W19
 have B_19 : Hid (Below r w W19) := by rw [<- hW]; exact hI (below_put4 B_15.out (by omega) _ _ _ _)
 have Xe_20 : Hid (Rb W19 (r + 1 + 1) RVal.nil) := by rw [<- hW]; exact hI (Rb.put (q' := RVal.nil) Xe_18.out (RVal.nil_in w15))
 clear hW B_15 Xe_18
 obtain ⟨j0, j1, j2, j3⟩ := Xe_20.out.cs
 try dsimp only at j0 j1 j2 j3
 simp only [RVal.nil] at j0 j1 j2 j3
 refine bodyPost_ret (v := .tuple #[.agg #[.bool false, .slice none 0 0, .bool false, .slice none 0 0], .int .i64 1]) (by simp [results, Tryz.results105, go_sem, j0, j1, j2, j3]) rfl ?_
 exact RetR.of Xe_20.out rfl rfl (by rw [HRr.out]; exact B_19.out)
theorem rmake_b2 (ga : Bool) (Aa : Option Addr) (na ca : Nat) (xsa : List Nat) (gb : Bool) (Ab : Option Addr) (nb cb : Nat) (xsb : List Nat) (w : World) (ha : Sl w w.heap.size Aa na ca xsa) (hb : Sl w w.heap.size Ab nb cb xsb) (h1 : (ov ga xsa).isSome = true) (h2 : (ov gb xsb).isSome = false) :
 Calls Tryz.prog 105 #[.agg #[.bool ga, .slice Aa na ca], .agg #[.bool gb, .slice Ab nb cb]] w (RetR 0 0 1 w) := by
 have H1 := hI h1
 have H2 := hI h2
 clear h1 h2
 have Ja_0 := hI ha
 clear ha
 have Jb_0 := hI hb
 clear hb
 have B_0 : Hid (Below w.heap.size w w) := hI (Below.refl _ _)
 go_enter Tryz.func105, Tryz.ntmps105
 go_wp2_with fail
 generalize hW : World.alloc w _ = W1
 have hn := below_new w (.cells #[.bool ga, .slice Aa na ca] 25)
 rw [hW] at hn
 have hz : W1.heap.size = w.heap.size + 1 := by rw [<- hW]; simp
 have hx : Ba W1 w.heap.size ga Aa na ca xsa := by rw [<- hW]; exact ⟨Bx.new w _ _ _ _, Ja_0.out.on (below_new _ _)⟩
 have Jb_1 := hI (Jb_0.out.on hn)
 have B_2 := hI (below_chain B_0.out B_0.out.size hn)
 generalize hr : w.heap.size = r at *
 have HRr := hI hr
 clear hr
 have Za_3 : Hid (Ba W1 r ga Aa na ca xsa) := hI hx
 have HT3 := hz
 clear hn hx hz hW Jb_0 B_0 Ja_0
 generalize hW : World.alloc W1 _ = W4
 have hn := below_new W1 (.cells #[.bool gb, .slice Ab nb cb] 25)
 rw [hW] at hn
 have hz : W4.heap.size = W1.heap.size + 1 := by rw [<- hW]; simp
 have hx : Ba W4 W1.heap.size gb Ab nb cb xsb := by rw [<- hW]; exact ⟨Bx.new W1 _ _ _ _, Jb_1.out.on (below_new _ _)⟩
 have hlt : r < W1.heap.size := Za_3.out.bx.lt
 have B_4 := hI (bch B_2.out HRr.out hn)
 have Za_5 := hI (Za_3.out.on hn)
 rw [HT3] at hx hz hlt
 have Zb_6 : Hid (Ba W4 (r + 1) gb Ab nb cb xsb) := hI hx
 have HT6 := hz
 clear hn hx hz hW hlt B_2 Za_3 Jb_1
 generalize hW : World.alloc W4 _ = W7
 have hn := below_new W4 (.cells #[.bool false, .slice none 0 0, .bool false, .slice none 0 0] 27)
 rw [hW] at hn
 have hx : Rb W7 W4.heap.size RVal.nil := by rw [<- hW]; exact Rb.new (q := RVal.nil) (RVal.nil_in W4)
 have hlt : (r + 1) < W4.heap.size := Zb_6.out.bx.lt
 have B_7 := hI (bch B_4.out HRr.out hn)
 have Za_8 := hI (Za_5.out.on hn)
 have Zb_9 := hI (Zb_6.out.on hn)
 rw [HT6] at hx hlt
 have Xe_10 : Hid (Rb W7 (r + 1 + 1) RVal.nil) := hI hx
 clear hn hx hW hlt B_4 Za_5 Zb_6
 clear HT3 HT6
 refine (rvalid_z Za_8.out.sl true H1.out).mono ?_
 rintro e w11 ⟨rfl, hb⟩
 have B_11 := hI (bch B_7.out HRr.out hb)
 have Za_12 := hI (Za_8.out.on hb)
 have Zb_13 := hI (Zb_9.out.on hb)
 have Xe_14 := hI (Xe_10.out.on hb)
 clear hb B_7 Za_8 Zb_9 Xe_10
 obtain ⟨kb0, kb1⟩ := Zb_13.out.cs
 have lb := Zb_13.out.bx.lt
 go_wp2_with fail
 refine (rvalid_z Zb_13.out.sl false H2.out).mono ?_
 clear kb0 kb1 lb
 rintro e w15 ⟨rfl, hb⟩
 have B_15 := hI (bch B_11.out HRr.out hb)
 have Za_16 := hI (Za_12.out.on hb)
 have Zb_17 := hI (Zb_13.out.on hb)
 have Xe_18 := hI (Xe_14.out.on hb)
 clear hb B_11 Za_12 Zb_13 Xe_14
 clear Za_16 Zb_17
 obtain ⟨ke0, ke1, ke2, ke3⟩ := Xe_18.out.cs
 obtain ⟨fe0, fe1, fe2, fe3⟩ := Xe_18.out.fs
 simp only [RVal.nil] at ke0 ke1 ke2 ke3
 have le := Xe_18.out.lt
 go_wp2
 clear ke0 ke1 ke2 ke3 fe0 fe1 fe2 fe3 le
 generalize hW : World.setCell (World.setCell (World.setCell (World.setCell w15 _ _) _ _) _ _) _ _ = W19
 have B_19 : Hid (Below r w W19) := by rw [<- hW]; exact hI (below_put4 B_15.out (by omega) _ _ _ _)
 have Xe_20 : Hid (Rb W19 (r + 1 + 1) RVal.nil) := by rw [<- hW]; exact hI (Rb.put (q' := RVal.nil) Xe_18.out (RVal.nil_in w15))
 clear hW B_15 Xe_18
 obtain ⟨j0, j1, j2, j3⟩ := Xe_20.out.cs
 try dsimp only at j0 j1 j2 j3
 simp only [RVal.nil] at j0 j1 j2 j3
 refine bodyPost_ret (v := .tuple #[.agg #[.bool false, .slice none 0 0, .bool false, .slice none 0 0], .int .i64 1]) (by simp [results, Tryz.results105, go_sem, j0, j1, j2, j3]) rfl ?_
 exact RetR.of Xe_20.out rfl rfl (by rw [HRr.out]; exact B_19.out)
theorem rmake_z (ga : Bool) (Aa : Option Addr) (na ca : Nat) (xsa : List Nat) (gb : Bool) (Ab : Option Addr) (nb cb : Nat) (xsb : List Nat) (w : World) (ha : Sl w w.heap.size Aa na ca xsa) (hb : Sl w w.heap.size Ab nb cb xsb) (a b : Int) (ha2 : ov ga xsa = some a) (hb2 : ov gb xsb = some b) (hn : decide (nb = 0) = true) :
 Calls Tryz.prog 105 #[.agg #[.bool ga, .slice Aa na ca], .agg #[.bool gb, .slice Ab nb cb]] w (RetR 0 0 4 w) := by
 have Va := hI ha2
 have Vb := hI hb2
 have HN := hI hn
 clear ha2 hb2 hn
 have Ja_0 := hI ha
 clear ha
 have Jb_0 := hI hb
 clear hb
 have B_0 : Hid (Below w.heap.size w w) := hI (Below.refl _ _)
 go_enter Tryz.func105, Tryz.ntmps105
 go_wp2_with fail
 generalize hW : World.alloc w _ = W1
 have hn := below_new w (.cells #[.bool ga, .slice Aa na ca] 25)
 rw [hW] at hn
 have hz : W1.heap.size = w.heap.size + 1 := by rw [<- hW]; simp
 have hx : Ba W1 w.heap.size ga Aa na ca xsa := by rw [<- hW]; exact ⟨Bx.new w _ _ _ _, Ja_0.out.on (below_new _ _)⟩
 have Jb_1 := hI (Jb_0.out.on hn)
 have B_2 := hI (below_chain B_0.out B_0.out.size hn)
 generalize hr : w.heap.size = r at *
 have HRr := hI hr
 clear hr
 have Za_3 : Hid (Ba W1 r ga Aa na ca xsa) := hI hx
 have HT3 := hz
 clear hn hx hz hW Jb_0 B_0 Ja_0
 generalize hW : World.alloc W1 _ = W4
 have hn := below_new W1 (.cells #[.bool gb, .slice Ab nb cb] 25)
 rw [hW] at hn
 have hz : W4.heap.size = W1.heap.size + 1 := by rw [<- hW]; simp
 have hx : Ba W4 W1.heap.size gb Ab nb cb xsb := by rw [<- hW]; exact ⟨Bx.new W1 _ _ _ _, Jb_1.out.on (below_new _ _)⟩
 have hlt : r < W1.heap.size := Za_3.out.bx.lt
 have B_4 := hI (bch B_2.out HRr.out hn)
 have Za_5 := hI (Za_3.out.on hn)
 rw [HT3] at hx hz hlt
 have Zb_6 : Hid (Ba W4 (r + 1) gb Ab nb cb xsb) := hI hx
 have HT6 := hz
 clear hn hx hz hW hlt B_2 Za_3 Jb_1
 generalize hW : World.alloc W4 _ = W7
 have hn := below_new W4 (.cells #[.bool false, .slice none 0 0, .bool false, .slice none 0 0] 27)
 rw [hW] at hn
 have hx : Rb W7 W4.heap.size RVal.nil := by rw [<- hW]; exact Rb.new (q := RVal.nil) (RVal.nil_in W4)
 have hlt : (r + 1) < W4.heap.size := Zb_6.out.bx.lt
 have B_7 := hI (bch B_4.out HRr.out hn)
 have Za_8 := hI (Za_5.out.on hn)
 have Zb_9 := hI (Zb_6.out.on hn)
 rw [HT6] at hx hlt
 have Xe_10 : Hid (Rb W7 (r + 1 + 1) RVal.nil) := hI hx
 clear hn hx hW hlt B_4 Za_5 Zb_6
 clear HT3 HT6
 refine (rvalid_z Za_8.out.sl true (by rw [Va.out]; rfl)).mono ?_
 rintro e w11 ⟨rfl, hb⟩
 have B_11 := hI (bch B_7.out HRr.out hb)
 have Za_12 := hI (Za_8.out.on hb)
 have Zb_13 := hI (Zb_9.out.on hb)
 have Xe_14 := hI (Xe_10.out.on hb)
 clear hb B_7 Za_8 Zb_9 Xe_10
 obtain ⟨kb0, kb1⟩ := Zb_13.out.cs
 have lb := Zb_13.out.bx.lt
 go_wp2_with fail
 refine (rvalid_z Zb_13.out.sl true (by rw [Vb.out]; rfl)).mono ?_
 clear kb0 kb1 lb
 rintro e w15 ⟨rfl, hb⟩
 have B_15 := hI (bch B_11.out HRr.out hb)
 have Za_16 := hI (Za_12.out.on hb)
 have Zb_17 := hI (Zb_13.out.on hb)
 have Xe_18 := hI (Xe_14.out.on hb)
 clear hb B_11 Za_12 Zb_13 Xe_14
 obtain ⟨kb0, kb1⟩ := Zb_17.out.cs
 have lb := Zb_17.out.bx.lt
 go_wp2_with fail
 have C := riszero_any gb Ab nb cb w15
 rw [HN.out] at C
 refine C.mono ?_
 clear C
 clear kb0 kb1 lb
 rintro e w19 ⟨rfl, hb⟩
 have B_19 := hI (bch B_15.out HRr.out hb)
 have Za_20 := hI (Za_16.out.on hb)
 have Zb_21 := hI (Zb_17.out.on hb)
 have Xe_22 := hI (Xe_18.out.on hb)
 clear hb B_15 Za_16 Zb_17 Xe_18
 obtain ⟨ke0, ke1, ke2, ke3⟩ := Xe_22.out.cs
 obtain ⟨fe0, fe1, fe2, fe3⟩ := Xe_22.out.fs
 simp only [RVal.nil] at ke0 ke1 ke2 ke3
 have le := Xe_22.out.lt
 go_wp2
 clear ke0 ke1 ke2 ke3 fe0 fe1 fe2 fe3 le
 generalize hW : World.setCell (World.setCell (World.setCell (World.setCell w19 _ _) _ _) _ _) _ _ = W23
 have B_23 : Hid (Below r w W23) := by rw [<- hW]; exact hI (below_put4 B_19.out (by omega) _ _ _ _)
 have Za_24 : Hid (Ba W23 r ga Aa na ca xsa) := by rw [<- hW]; exact hI (Za_20.out.pass Xe_22.out (by omega) _ _ _ _)
 have Zb_25 : Hid (Ba W23 (r + 1) gb Ab nb cb xsb) := by rw [<- hW]; exact hI (Zb_21.out.pass Xe_22.out (by omega) _ _ _ _)
 have Xe_26 : Hid (Rb W23 (r + 1 + 1) RVal.nil) := by rw [<- hW]; exact hI (Rb.put (q' := RVal.nil) Xe_22.out (RVal.nil_in w19))
 clear hW B_19 Za_20 Zb_21 Xe_22
 obtain ⟨j0, j1, j2, j3⟩ := Xe_26.out.cs
 try dsimp only at j0 j1 j2 j3
 simp only [RVal.nil] at j0 j1 j2 j3
 refine bodyPost_ret (v := .tuple #[.agg #[.bool false, .slice none 0 0, .bool false, .slice none 0 0], .int .i64 4]) (by simp [results, Tryz.results105, go_sem, j0, j1, j2, j3]) rfl ?_
 exact RetR.of Xe_26.out rfl rfl (by rw [HRr.out]; exact B_23.out)
theorem rmake_g (ga : Bool) (Aa : Option Addr) (na ca : Nat) (xsa : List Nat) (gb : Bool) (Ab : Option Addr) (nb cb : Nat) (xsb : List Nat) (w : World) (ha : Sl w w.heap.size Aa na ca xsa) (hb : Sl w w.heap.size Ab nb cb xsb) (a b : Int) (ha2 : ov ga xsa = some a) (hb2 : ov gb xsb = some b) (hn : decide (nb = 0) = false) (hb0 : b ≠ 0) :
 Calls Tryz.prog 105 #[.agg #[.bool ga, .slice Aa na ca], .agg #[.bool gb, .slice Ab nb cb]] w (RetR (Rat.divInt a b).num (Rat.divInt a b).den 0 w) := by
 have Va := hI ha2
 have Vb := hI hb2
 have HN := hI hn
 have HB0 := hI hb0
 clear ha2 hb2 hn hb0
 have Ja_0 := hI ha
 clear ha
 have Jb_0 := hI hb
 clear hb
 have B_0 : Hid (Below w.heap.size w w) := hI (Below.refl _ _)
 go_enter Tryz.func105, Tryz.ntmps105
 go_wp2_with fail
 generalize hW : World.alloc w _ = W1
 have hn := below_new w (.cells #[.bool ga, .slice Aa na ca] 25)
 rw [hW] at hn
 have hz : W1.heap.size = w.heap.size + 1 := by rw [<- hW]; simp
 have hx : Ba W1 w.heap.size ga Aa na ca xsa := by rw [<- hW]; exact ⟨Bx.new w _ _ _ _, Ja_0.out.on (below_new _ _)⟩
 have Jb_1 := hI (Jb_0.out.on hn)
 have B_2 := hI (below_chain B_0.out B_0.out.size hn)
 generalize hr : w.heap.size = r at *
 have HRr := hI hr
 clear hr
 have Za_3 : Hid (Ba W1 r ga Aa na ca xsa) := hI hx
 have HT3 := hz
 clear hn hx hz hW Jb_0 B_0 Ja_0
 generalize hW : World.alloc W1 _ = W4
 have hn := below_new W1 (.cells #[.bool gb, .slice Ab nb cb] 25)
 rw [hW] at hn
 have hz : W4.heap.size = W1.heap.size + 1 := by rw [<- hW]; simp
 have hx : Ba W4 W1.heap.size gb Ab nb cb xsb := by rw [<- hW]; exact ⟨Bx.new W1 _ _ _ _, Jb_1.out.on (below_new _ _)⟩
 have hlt : r < W1.heap.size := Za_3.out.bx.lt
 have B_4 := hI (bch B_2.out HRr.out hn)
 have Za_5 := hI (Za_3.out.on hn)
 rw [HT3] at hx hz hlt
 have Zb_6 : Hid (Ba W4 (r + 1) gb Ab nb cb xsb) := hI hx
 have HT6 := hz
 clear hn hx hz hW hlt B_2 Za_3 Jb_1
 generalize hW : World.alloc W4 _ = W7
 have hn := below_new W4 (.cells #[.bool false, .slice none 0 0, .bool false, .slice none 0 0] 27)
 rw [hW] at hn
 have hx : Rb W7 W4.heap.size RVal.nil := by rw [<- hW]; exact Rb.new (q := RVal.nil) (RVal.nil_in W4)
 have hlt : (r + 1) < W4.heap.size := Zb_6.out.bx.lt
 have B_7 := hI (bch B_4.out HRr.out hn)
 have Za_8 := hI (Za_5.out.on hn)
 have Zb_9 := hI (Zb_6.out.on hn)
 rw [HT6] at hx hlt
 have Xe_10 : Hid (Rb W7 (r + 1 + 1) RVal.nil) := hI hx
 clear hn hx hW hlt B_4 Za_5 Zb_6
 clear HT3 HT6
 refine (rvalid_z Za_8.out.sl true (by rw [Va.out]; rfl)).mono ?_
 rintro e w11 ⟨rfl, hb⟩
 have B_11 := hI (bch B_7.out HRr.out hb)
 have Za_12 := hI (Za_8.out.on hb)
 have Zb_13 := hI (Zb_9.out.on hb)
 have Xe_14 := hI (Xe_10.out.on hb)
 clear hb B_7 Za_8 Zb_9 Xe_10
 obtain ⟨kb0, kb1⟩ := Zb_13.out.cs
 have lb := Zb_13.out.bx.lt
 go_wp2_with fail
 refine (rvalid_z Zb_13.out.sl true (by rw [Vb.out]; rfl)).mono ?_
 clear kb0 kb1 lb
 rintro e w15 ⟨rfl, hb⟩
 have B_15 := hI (bch B_11.out HRr.out hb)
 have Za_16 := hI (Za_12.out.on hb)
 have Zb_17 := hI (Zb_13.out.on hb)
 have Xe_18 := hI (Xe_14.out.on hb)
 clear hb B_11 Za_12 Zb_13 Xe_14
 obtain ⟨kb0, kb1⟩ := Zb_17.out.cs
 have lb := Zb_17.out.bx.lt
 go_wp2_with fail
 have C := riszero_any gb Ab nb cb w15
 rw [HN.out] at C
 refine C.mono ?_
 clear C
 clear kb0 kb1 lb
 rintro e w19 ⟨rfl, hb⟩
 have B_19 := hI (bch B_15.out HRr.out hb)
 have Za_20 := hI (Za_16.out.on hb)
 have Zb_21 := hI (Zb_17.out.on hb)
 have Xe_22 := hI (Xe_18.out.on hb)
 clear hb B_15 Za_16 Zb_17 Xe_18
 obtain ⟨ka0, ka1⟩ := Za_20.out.cs
 have la := Za_20.out.bx.lt
 obtain ⟨kb0, kb1⟩ := Zb_21.out.cs
 have lb := Zb_21.out.bx.lt
 go_wp2_with fail
 refine (rlow_z Za_20.out.sl Zb_21.out.sl Va.out Vb.out HB0.out).mono ?_
 clear ka0 ka1 la kb0 kb1 lb
 rintro e w23 ⟨tk, rfl, hi, hv, hb⟩
 have B_23 := hI (bch B_19.out HRr.out hb)
 have Za_24 := hI (Za_20.out.on hb)
 have Zb_25 := hI (Zb_21.out.on hb)
 have Xe_26 := hI (Xe_22.out.on hb)
 have Ik_27 : Hid (tk.In w23) := hI hi
 clear hb B_19 Za_20 Zb_21 Xe_22 hi
 have Vk := hI hv
 clear hv
 clear Za_24 Zb_25
 obtain ⟨ke0, ke1, ke2, ke3⟩ := Xe_26.out.cs
 obtain ⟨fe0, fe1, fe2, fe3⟩ := Xe_26.out.fs
 simp only [RVal.nil] at ke0 ke1 ke2 ke3
 have le := Xe_26.out.lt
 go_wp2
 clear ke0 ke1 ke2 ke3 fe0 fe1 fe2 fe3 le
 generalize hW : World.setCell (World.setCell (World.setCell (World.setCell w23 _ _) _ _) _ _) _ _ = W28
 have B_28 : Hid (Below r w W28) := by rw [<- hW]; exact hI (below_put4 B_23.out (by omega) _ _ _ _)
 have Xe_29 : Hid (Rb W28 (r + 1 + 1) tk) := by rw [<- hW]; exact hI (Rb.put (q' := tk) Xe_26.out Ik_27.out)
 clear hW B_23 Xe_26 Ik_27
 obtain ⟨j0, j1, j2, j3⟩ := Xe_29.out.cs
 try dsimp only at j0 j1 j2 j3
 refine bodyPost_ret (v := .tuple #[.agg #[.bool tk.g, .slice tk.A tk.n tk.c, .bool tk.gd, .slice tk.Ad tk.nd tk.cd], .int .i64 0]) (by simp [results, Tryz.results105, go_sem, j0, j1, j2, j3]) rfl ?_
 exact RetR.of Xe_29.out (rv_some Vk.out).1 (rv_some Vk.out).2 (by rw [HRr.out]; exact B_28.out)
theorem rmake_ov {g g' : Bool} {A A' : Option Addr} {n c n' c' : Nat} {xs ys : List Nat} {w : World} (h : Sl w w.heap.size A n c xs) (h' : Sl w w.heap.size A' n' c' ys) :
 Calls Tryz.prog 105 #[.agg #[.bool g, .slice A n c], .agg #[.bool g', .slice A' n' c']] w (RetR (mkN (ov g xs) (ov g' ys)) (mkD (ov g xs) (ov g' ys)) (mkE (ov g xs) (ov g' ys)) w) := by
 rcases hx : ov g xs with _ | a
 . exact rmake_b1 g A n c xs g' A' n' c' ys w h h' (ov g' ys).isSome (by rw [hx]; rfl) rfl
 . rcases hy : ov g' ys with _ | b
   . exact rmake_b2 g A n c xs g' A' n' c' ys w h h' (by rw [hx]; rfl) (by rw [hy]; rfl)
   . show Calls Tryz.prog 105 _ w (RetR (if b = 0 then 0 else (Rat.divInt a b).num) (if b = 0 then 0 else ((Rat.divInt a b).den : Int)) (if b = 0 then 4 else 0) w)
     have l := ov_len0 h' hy
     by_cases hb : b = 0
     . rw [if_pos hb, if_pos hb, if_pos hb]
       exact rmake_z g A n c xs g' A' n' c' ys w h h' a b hx hy (by rw [l, decide_eq_true hb])
     . rw [if_neg hb, if_neg hb, if_neg hb]
       exact rmake_g g A n c xs g' A' n' c' ys w h h' a b hx hy (by rw [l, decide_eq_false hb]) hb
theorem rof_run (n d : Int) (w : World) (z zd er : Int) (h1 : -9223372036854775808 <= n /\ n <= 9223372036854775807) (h2 : -9223372036854775808 <= d /\ d <= 9223372036854775807) (h3 : ∀ (g : Bool) (A : Option Addr) (k c : Nat) (xs : List Nat) (g' : Bool) (A' : Option Addr) (k' c' : Nat) (ys : List Nat) (w : World), Sl w w.heap.size A k c xs -> Sl w w.heap.size A' k' c' ys -> ov g xs = some n -> ov g' ys = some d -> Calls Tryz.prog 105 #[.agg #[.bool g, .slice A k c], .agg #[.bool g', .slice A' k' c']] w (RetR z zd er w)) :
 Calls Tryz.prog 48 #[.int .i64 n, .int .i64 d] w (RetR z zd er w) := by
 have H1 := hI h1
 have H2 := hI h2
 have H3 := hI h3
 clear h1 h2 h3
 have B_0 : Hid (Below w.heap.size w w) := hI (Below.refl _ _)
 go_enter Tryz.func48, Tryz.ntmps48
 go_wp2_with fail
 generalize hW : World.alloc w _ = W1
 have hn := below_new w (.cells #[.bool false, .slice none 0 0, .bool false, .slice none 0 0] 27)
 rw [hW] at hn
 have hx : Rb W1 w.heap.size RVal.nil := by rw [<- hW]; exact Rb.new (q := RVal.nil) (RVal.nil_in w)
 have B_1 := hI (below_chain B_0.out B_0.out.size hn)
 generalize hr : w.heap.size = r at *
 have HRr := hI hr
 clear hr
 have Xe_2 : Hid (Rb W1 r RVal.nil) := hI hx
 clear hn hx hW B_0
 refine (rof_z n W1 H1.out.1 H1.out.2).mono ?_
 rintro e w3 ⟨gp, Ap, np, cp, xsp, rfl, hs, ho, hb⟩
 have B_3 := hI (bch B_1.out HRr.out hb)
 have Xe_4 := hI (Xe_2.out.on hb)
 have Jp_5 : Hid (Sl w3 w3.heap.size Ap np cp xsp) := hI hs
 clear hb B_1 Xe_2 hs
 have Vp := hI ho
 clear ho
 go_wp2_with fail
 refine (rof_z d w3 H2.out.1 H2.out.2).mono ?_
 rintro e w6 ⟨gq, Aq, nq, cq, xsq, rfl, hs, ho, hb⟩
 have B_6 := hI (bch B_3.out HRr.out hb)
 have Xe_7 := hI (Xe_4.out.on hb)
 have Jp_8 := hI (Jp_5.out.on hb)
 have Jq_9 : Hid (Sl w6 w6.heap.size Aq nq cq xsq) := hI hs
 clear hb B_3 Xe_4 Jp_5 hs
 have Vq := hI ho
 clear ho
 go_wp2_with fail
 refine (H3.out _ _ _ _ _ _ _ _ _ _ w6 Jp_8.out Jq_9.out Vp.out Vq.out).mono ?_
 rintro e w10 ⟨tk, rfl, hi, hv, hv2, hb⟩
 have B_10 := hI (bch B_6.out HRr.out hb)
 have Xe_11 := hI (Xe_7.out.on hb)
 have Jp_12 := hI (Jp_8.out.on hb)
 have Jq_13 := hI (Jq_9.out.on hb)
 have Ik_14 : Hid (tk.In w10) := hI hi
 clear hb B_6 Xe_7 Jp_8 Jq_9 hi
 have Vk := hI (And.intro hv hv2)
 clear hv hv2
 obtain ⟨ke0, ke1, ke2, ke3⟩ := Xe_11.out.cs
 obtain ⟨fe0, fe1, fe2, fe3⟩ := Xe_11.out.fs
 simp only [RVal.nil] at ke0 ke1 ke2 ke3
 have le := Xe_11.out.lt
 go_wp2
 clear ke0 ke1 ke2 ke3 fe0 fe1 fe2 fe3 le
 generalize hW : World.setCell (World.setCell (World.setCell (World.setCell w10 _ _) _ _) _ _) _ _ = W15
 have B_15 : Hid (Below r w W15) := by rw [<- hW]; exact hI (below_put4 B_10.out (by omega) _ _ _ _)
 have Xe_16 : Hid (Rb W15 r tk) := by rw [<- hW]; exact hI (Rb.put (q' := tk) Xe_11.out Ik_14.out)
 have Jp_17 : Hid (Sl W15 W15.heap.size Ap np cp xsp) := by rw [<- hW]; exact hI (Jp_12.out.put4 Xe_11.out.bx _ _ _ _)
 have Jq_18 : Hid (Sl W15 W15.heap.size Aq nq cq xsq) := by rw [<- hW]; exact hI (Jq_13.out.put4 Xe_11.out.bx _ _ _ _)
 clear hW B_10 Xe_11 Jp_12 Jq_13 Ik_14
 obtain ⟨j0, j1, j2, j3⟩ := Xe_16.out.cs
 try dsimp only at j0 j1 j2 j3
 refine bodyPost_ret (v := .tuple #[.agg #[.bool tk.g, .slice tk.A tk.n tk.c, .bool tk.gd, .slice tk.Ad tk.nd tk.cd], .int .i64 er]) (by simp [results, Tryz.results48, go_sem, j0, j1, j2, j3]) rfl ?_
 exact RetR.of Xe_16.out Vk.out.1 Vk.out.2 (by rw [HRr.out]; exact B_15.out)
theorem rof_q (n d : Int) (w : World) (h1 : -9223372036854775808 <= n) (h2 : n <= 9223372036854775807) (h3 : -9223372036854775808 <= d) (h4 : d <= 9223372036854775807) :
 Calls Tryz.prog 48 #[.int .i64 n, .int .i64 d] w (RetR (mkN (some n) (some d)) (mkD (some n) (some d)) (mkE (some n) (some d)) w) :=
 rof_run n d w _ _ _ ⟨h1, h2⟩ ⟨h3, h4⟩ fun g A k c xs g' A' k' c' ys w h h' hx hy => by
  have C := rmake_ov (g := g) (g' := g') h h'
  rwa [hx, hy] at C
end Go.Proofs.YtmncfbfepdbioaaGreatDoor
