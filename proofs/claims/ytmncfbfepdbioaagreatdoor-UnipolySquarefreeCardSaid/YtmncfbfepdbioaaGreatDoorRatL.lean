/-
 Stage 2: Text and Sign of the rationals.
-/
import Derived.Test.YtmncfbfepdbioaaGreatDoorBaseE
import Derived.Test.YtmncfbfepdbioaaGreatDoorPolQ
set_option maxHeartbeats 1000000
namespace Go.Proofs.YtmncfbfepdbioaaGreatDoor
open Go.RowKit
def rtx (x : Rat) : List UInt8 := if x.den = 1 then decT x.num else decT x.num ++ 47 :: decT (x.den : Int)
theorem text_boxes (q : RVal) (w W : World) (h : q.In w) (hW : (w.alloc (.cells #[.bool q.g, .slice q.A q.n q.c, .bool q.gd, .slice q.Ad q.nd q.cd] 27)).alloc (.cells #[.bool q.g, .slice q.A q.n q.c, .bool q.gd, .slice q.Ad q.nd q.cd] 27) = W) :
 Below w.heap.size w W /\ Rb W w.heap.size q /\ Blk W (w.heap.size + 1) 27 #[.bool q.g, .slice q.A q.n q.c, .bool q.gd, .slice q.Ad q.nd q.cd] := by
 obtain ⟨b2, h1, h2⟩ := two_rats q q w W h h hW
 exact ⟨b2, h1, h2.bx⟩
theorem oneB_some (z : Int) : oneB (some z) = decide (z = 1) := by
 rcases h : oneB (some z) with _ | _
 . symm; rw [decide_eq_false_iff_not]; intro e; subst e; cases h
 . have := (oneB_iff _).1 h
   injection this with this
   rw [this]; rfl
def RetTx (l : List UInt8) (er : Int) (w : World) (e : Ending) (w' : World) : Prop := e = .returned (.tuple #[.string ⟨l.toArray⟩, .int .i64 er]) /\ Below w.heap.size w w'
theorem cat_arr (a b : List UInt8) : (⟨a.toArray⟩ : ByteArray) ++ (⟨b.toArray⟩ : ByteArray) = ⟨(a ++ b).toArray⟩ := by
 apply ByteArray.ext
 simp
theorem text_r1 (q : RVal) (w : World) (h : q.In w) (x : Rat) (l1 l2 : List UInt8) (hx : rv q.o q.od = some x) (h1 : decT x.num = l1) (h2 : decT (x.den : Int) = l2) (hb : decide ((x.den : Int) = 1) = true) :
 Calls Tryz.prog 144 #[.agg #[.bool q.g, .slice q.A q.n q.c, .bool q.gd, .slice q.Ad q.nd q.cd]] w (RetTx l1 0 w) := by
 have HE := Lib.hid (isSome_of hx)
 have HO := Lib.hid (rv_some hx)
 have HL := Lib.hid (show decT x.num = l1 /\ decide ((x.den : Int) = 1) = true /\ decT (x.den : Int) = l2 from ⟨h1, hb, h2⟩)
 clear hx h1 hb h2
 have HS := Lib.hid h
 clear h
 go_enter Tryz.func144, Tryz.ntmps144
 go_wp2_with fail
 generalize hW : World.alloc (World.alloc w _) _ = V
 obtain ⟨hb, ra, ar⟩ := text_boxes q w V HS.out hW
 have HB := Lib.hid hb
 clear hW hb
 generalize hr : w.heap.size = r at *
 have HRr := Lib.hid hr
 clear hr
 have C := allValid_one q (r + 1) true V ra.sl ar HE.out
 refine C.mono ?_
 clear C ar
 rintro e w1 ⟨rfl, hb1⟩
 have B1 := Lib.hid (below_chain HB.out (by have := HB.out.size; have := HRr.out; omega) hb1)
 have RA := Lib.hid (ra.on hb1)
 clear hb1 ra
 have k0 := RA.out.c0
 have k1 := RA.out.c1
 go_wp2_with fail
 have C := text_ov (neg := q.g) RA.out.sl.1
 rw [show ov q.g q.xs = some x.num from HO.out.1] at C
 have C' : Calls Tryz.prog 176 #[.agg #[.bool q.g, .slice q.A q.n q.c]] w1 fun e w' => e = .returned (.tuple #[.string ⟨l1.toArray⟩, .int .i64 0]) /\ Below w1.heap.size w1 w' := by rw [<- HL.out.1]; exact C
 refine C'.mono ?_
 clear C C' k0 k1
 rintro e w2 ⟨rfl, hb2⟩
 have B2 := Lib.hid (below_chain B1.out (by have := B1.out.size; have := HRr.out; omega) hb2)
 have RA2 := Lib.hid (RA.out.on hb2)
 clear hb2 RA B1
 have k2 := RA2.out.c2
 have k3 := RA2.out.c3
 go_wp2_with fail
 have C := isOne_ov (neg := q.gd) RA2.out.sl.2
 rw [show ov q.gd q.ys = some (x.den : Int) from HO.out.2, oneB_some, HL.out.2.1] at C
 refine C.mono ?_
 clear C k2 k3
 rintro e w3 ⟨rfl, hb3⟩
 have B3 := Lib.hid (below_chain B2.out (by have := B2.out.size; have := HRr.out; omega) hb3)
 have RA3 := Lib.hid (RA2.out.on hb3)
 clear hb3 RA2 B2
 go_wp2
 go_ret2
 exact ⟨rfl, HRr.out.symm ▸ B3.out⟩
theorem text_r2 (q : RVal) (w : World) (h : q.In w) (x : Rat) (l1 l2 : List UInt8) (hx : rv q.o q.od = some x) (h1 : decT x.num = l1) (h2 : decT (x.den : Int) = l2) (hb : decide ((x.den : Int) = 1) = false) (m1 : l1.length <= 2000) (m2 : l2.length <= 2000) :
 Calls Tryz.prog 144 #[.agg #[.bool q.g, .slice q.A q.n q.c, .bool q.gd, .slice q.Ad q.nd q.cd]] w (RetTx (l1 ++ 47 :: l2) 0 w) := by
 have HE := Lib.hid (isSome_of hx)
 have HO := Lib.hid (rv_some hx)
 have HL := Lib.hid (show decT x.num = l1 /\ decide ((x.den : Int) = 1) = false /\ decT (x.den : Int) = l2 from ⟨h1, hb, h2⟩)
 clear hx h1 hb h2
 have HS := Lib.hid h
 clear h
 go_enter Tryz.func144, Tryz.ntmps144
 go_wp2_with fail
 generalize hW : World.alloc (World.alloc w _) _ = V
 obtain ⟨hb, ra, ar⟩ := text_boxes q w V HS.out hW
 have HB := Lib.hid hb
 clear hW hb
 generalize hr : w.heap.size = r at *
 have HRr := Lib.hid hr
 clear hr
 have C := allValid_one q (r + 1) true V ra.sl ar HE.out
 refine C.mono ?_
 clear C ar
 rintro e w1 ⟨rfl, hb1⟩
 have B1 := Lib.hid (below_chain HB.out (by have := HB.out.size; have := HRr.out; omega) hb1)
 have RA := Lib.hid (ra.on hb1)
 clear hb1 ra
 have k0 := RA.out.c0
 have k1 := RA.out.c1
 go_wp2_with fail
 have C := text_ov (neg := q.g) RA.out.sl.1
 rw [show ov q.g q.xs = some x.num from HO.out.1] at C
 have C' : Calls Tryz.prog 176 #[.agg #[.bool q.g, .slice q.A q.n q.c]] w1 fun e w' => e = .returned (.tuple #[.string ⟨l1.toArray⟩, .int .i64 0]) /\ Below w1.heap.size w1 w' := by rw [<- HL.out.1]; exact C
 refine C'.mono ?_
 clear C C' k0 k1
 rintro e w2 ⟨rfl, hb2⟩
 have B2 := Lib.hid (below_chain B1.out (by have := B1.out.size; have := HRr.out; omega) hb2)
 have RA2 := Lib.hid (RA.out.on hb2)
 clear hb2 RA B1
 have k2 := RA2.out.c2
 have k3 := RA2.out.c3
 go_wp2_with fail
 have C := isOne_ov (neg := q.gd) RA2.out.sl.2
 rw [show ov q.gd q.ys = some (x.den : Int) from HO.out.2, oneB_some, HL.out.2.1] at C
 refine C.mono ?_
 clear C k2 k3
 rintro e w3 ⟨rfl, hb3⟩
 have B3 := Lib.hid (below_chain B2.out (by have := B2.out.size; have := HRr.out; omega) hb3)
 have RA3 := Lib.hid (RA2.out.on hb3)
 clear hb3 RA2 B2
 have k2 := RA3.out.c2
 have k3 := RA3.out.c3
 go_wp2_with fail
 have C := text_ov (neg := q.gd) RA3.out.sl.2
 rw [show ov q.gd q.ys = some (x.den : Int) from HO.out.2] at C
 have C' : Calls Tryz.prog 176 #[.agg #[.bool q.gd, .slice q.Ad q.nd q.cd]] w3 fun e w' => e = .returned (.tuple #[.string ⟨l2.toArray⟩, .int .i64 0]) /\ Below w3.heap.size w3 w' := by rw [<- HL.out.2.2]; exact C
 refine C'.mono ?_
 clear C C' k2 k3
 rintro e w4 ⟨rfl, hb4⟩
 have B4 := Lib.hid (below_chain B3.out (by have := B3.out.size; have := HRr.out; omega) hb4)
 clear hb4 RA3 B3
 go_wp2
 go_ret2
 refine ⟨?_, HRr.out.symm ▸ B4.out⟩
 have e1 : (⟨#[47]⟩ : ByteArray) = ⟨([47] : List UInt8).toArray⟩ := rfl
 rw [e1, cat_arr, cat_arr, List.append_assoc]
 rfl
theorem decT_len {z : Int} (h : z.natAbs < BIG) : (decT z).length <= 2000 := by
 have key : ∀ k, 4294967296 ^ k = BIG -> (dec z.natAbs).length <= 10 * k := fun k hk => dec_len (Nat.lt_of_lt_of_le (hk ▸ h) (dec_ten k))
 have h1 := key 128 rfl
 unfold decT
 by_cases h0 : z = 0
 . rw [if_pos h0]; simp
 . rw [if_neg h0, List.length_append]
   by_cases h2 : z < 0
   . rw [if_pos h2]; simp; omega
   . rw [if_neg h2]; simp; omega
theorem text_q {q : RVal} {x : Rat} {w : World} (h : q.In w) (hx : rv q.o q.od = some x) : Calls Tryz.prog 144 #[.agg #[.bool q.g, .slice q.A q.n q.c, .bool q.gd, .slice q.Ad q.nd q.cd]] w (RetTx (rtx x) 0 w) := by
 unfold rtx
 by_cases hd : x.den = 1
 . rw [if_pos hd]
   exact text_r1 q w h x _ _ hx rfl rfl (by rw [decide_eq_true_iff]; omega)
 . rw [if_neg hd]
   exact text_r2 q w h x _ _ hx rfl rfl (by rw [decide_eq_false_iff_not]; omega) (decT_len (ov_lt h.1.ok (rv_some hx).1)) (decT_len (ov_lt h.2.ok (rv_some hx).2))
theorem num_len {w : World} {q : RVal} {x : Rat} (h : Sl w w.heap.size q.A q.n q.c q.xs) (ho : q.o = some x.num) : (((q.n : Int) == 0) = decide (x.num = 0)) := by
 have hp := ov_parts (show ov q.g q.xs = some x.num from ho)
 by_cases h0 : x.num = 0
 . rw [decide_eq_true h0]
   have hx : q.xs = [] := by
    rcases he : q.xs with _ | ⟨y, ys⟩
    . rfl
    . have := val_pos hp.1 (by rw [he]; simp)
      rw [hp.2.1, h0] at this
      simp at this
   have := h.len
   rw [hx] at this
   simp at this
   simp
   omega
 . rw [decide_eq_false h0, beq_eq_false_iff_ne]
   intro e
   have : q.xs = [] := List.eq_nil_of_length_eq_zero (by rw [h.len]; omega)
   rw [this] at hp
   have := hp.2.1
   simp [val] at this
   omega
theorem sign_zero (q : RVal) (w : World) (h : q.In w) (x : Rat) (hx : rv q.o q.od = some x) (h0 : x.num = 0) :
 Calls Tryz.prog 32 #[.agg #[.bool q.g, .slice q.A q.n q.c, .bool q.gd, .slice q.Ad q.nd q.cd]] w (fun e w' => e = .returned (.int .i64 (0)) /\ Below w.heap.size w w') := by
 have HE := Lib.hid (isSome_of hx)
 have hn0 : ((q.n : Int) == 0) = true := by rw [num_len h.1 (rv_some hx).1, decide_eq_true h0]
 clear hx h0
 have HB0 := Lib.hid (below_new w (.cells #[.bool q.g, .slice q.A q.n q.c, .bool q.gd, .slice q.Ad q.nd q.cd] 27))
 have HR0 := Lib.hid (Rb.new h)
 clear h
 go_enter Tryz.func32, Tryz.ntmps32
 go_wp2_with fail
 have C := ratValid_r HR0.out.sl
 rw [HE.out] at C
 refine C.mono ?_
 clear C
 rintro e w1 ⟨rfl, hb1⟩
 have HB1 := Lib.hid (below_chain HB0.out HB0.out.size hb1)
 have RA := Lib.hid (HR0.out.on hb1)
 clear hb1
 have k0 := RA.out.c0
 have k1 := RA.out.c1
 go_wp2
 go_ret
 exact ⟨rfl, HB1.out⟩
theorem sign_neg (q : RVal) (w : World) (h : q.In w) (x : Rat) (hx : rv q.o q.od = some x) (h0 : x.num < 0) :
 Calls Tryz.prog 32 #[.agg #[.bool q.g, .slice q.A q.n q.c, .bool q.gd, .slice q.Ad q.nd q.cd]] w (fun e w' => e = .returned (.int .i64 (-1)) /\ Below w.heap.size w w') := by
 have HE := Lib.hid (isSome_of hx)
 have hn0 : ((q.n : Int) == 0) = false := by rw [num_len h.1 (rv_some hx).1]; exact decide_eq_false (by omega)
 have HG := Lib.hid (show q.g = true by
  have := ov_sign (rv_some hx).1
  rw [<- this]; exact decide_eq_true (by omega))
 clear hx h0
 have HB0 := Lib.hid (below_new w (.cells #[.bool q.g, .slice q.A q.n q.c, .bool q.gd, .slice q.Ad q.nd q.cd] 27))
 have HR0 := Lib.hid (Rb.new h)
 clear h
 go_enter Tryz.func32, Tryz.ntmps32
 go_wp2_with fail
 have C := ratValid_r HR0.out.sl
 rw [HE.out] at C
 refine C.mono ?_
 clear C
 rintro e w1 ⟨rfl, hb1⟩
 have HB1 := Lib.hid (below_chain HB0.out HB0.out.size hb1)
 have RA := Lib.hid (HR0.out.on hb1)
 clear hb1
 have k0 := RA.out.c0
 rw [HG.out] at k0
 have k1 := RA.out.c1
 go_wp2
 go_ret
 exact ⟨rfl, HB1.out⟩
theorem sign_pos (q : RVal) (w : World) (h : q.In w) (x : Rat) (hx : rv q.o q.od = some x) (h0 : 0 < x.num) :
 Calls Tryz.prog 32 #[.agg #[.bool q.g, .slice q.A q.n q.c, .bool q.gd, .slice q.Ad q.nd q.cd]] w (fun e w' => e = .returned (.int .i64 (1)) /\ Below w.heap.size w w') := by
 have HE := Lib.hid (isSome_of hx)
 have hn0 : ((q.n : Int) == 0) = false := by rw [num_len h.1 (rv_some hx).1]; exact decide_eq_false (by omega)
 have HG := Lib.hid (show q.g = false by
  have := ov_sign (rv_some hx).1
  rw [<- this]; exact decide_eq_false (by omega))
 clear hx h0
 have HB0 := Lib.hid (below_new w (.cells #[.bool q.g, .slice q.A q.n q.c, .bool q.gd, .slice q.Ad q.nd q.cd] 27))
 have HR0 := Lib.hid (Rb.new h)
 clear h
 go_enter Tryz.func32, Tryz.ntmps32
 go_wp2_with fail
 have C := ratValid_r HR0.out.sl
 rw [HE.out] at C
 refine C.mono ?_
 clear C
 rintro e w1 ⟨rfl, hb1⟩
 have HB1 := Lib.hid (below_chain HB0.out HB0.out.size hb1)
 have RA := Lib.hid (HR0.out.on hb1)
 clear hb1
 have k0 := RA.out.c0
 rw [HG.out] at k0
 have k1 := RA.out.c1
 go_wp2
 go_ret
 exact ⟨rfl, HB1.out⟩
theorem sign_q {q : RVal} {x : Rat} {w : World} (h : q.In w) (hx : rv q.o q.od = some x) : Calls Tryz.prog 32 #[.agg #[.bool q.g, .slice q.A q.n q.c, .bool q.gd, .slice q.Ad q.nd q.cd]] w (fun e w' => e = .returned (.int .i64 (x.num.sign)) /\ Below w.heap.size w w') := by
 rcases Int.lt_trichotomy x.num 0 with h0 | h0 | h0
 . rw [Int.sign_eq_neg_one_of_neg h0]; exact sign_neg q w h x hx h0
 . rw [h0]; exact sign_zero q w h x hx h0
 . rw [Int.sign_eq_one_of_pos h0]; exact sign_pos q w h x hx h0
end Go.Proofs.YtmncfbfepdbioaaGreatDoor
