/-
 Stage 3: UnipolyResultants.
-/
import Derived.Test.YtmncfbfepdbioaaGreatDoorLwR
import Derived.Test.YtmncfbfepdbioaaGreatDoorPolRv
import Derived.Test.YtmncfbfepdbioaaGreatDoorUniMf
import Derived.Test.YtmncfbfepdbioaaGreatDoorUniLm
set_option linter.unusedSimpArgs false
set_option linter.unusedVariables false
set_option maxRecDepth 20000
set_option maxHeartbeats 4000000
namespace Go.Proofs.YtmncfbfepdbioaaGreatDoor
open Go.RowKit
theorem lin_eq (n : Int) : lin' n = lin (n : Rat) := by unfold lin' lin; rw [Rat.intCast_neg]; rfl
def rt (zs : List Int) (i : Nat) : Int := pk (zs.getD i 0) 19 - 9
theorem rt_le (zs : List Int) (i : Nat) : (rt zs i).natAbs <= 9 := by
 unfold rt
 have h1 := pk_lo (zs.getD i 0) (n := 19) (by decide)
 have h2 := pk_hi (zs.getD i 0) (n := 19) (by decide)
 omega
def RsR (w5 : World) (r : Nat) (A : Option Addr) (n c : Nat) (l : List Rat) (x : Rat) (wr : World) : Prop := ∃ (qw : RVal) (L : List RVal), Mem w5 wr [.pol A n c L, .box r qw] /\ qw.v = some x /\ Vs L l
def Sgn (a c d : List Rat) : Prop := ((rsl a c).num.sign == 0) = decide (1 < d.length)
theorem isl_el {w : World} {A : Option Addr} {n c : Nat} {zs : List Int} (h : ISl w A n c zs) {k : Nat} (hk : k < n) : ∃ (ad : Addr) (z : Int), A = some ad /\ zs.getD k 0 = z /\ w.cell? (ad.add k) = some (.int .i64 z) /\ -9223372036854775808 <= z /\ z <= 9223372036854775807 := by
 obtain ⟨ad, e, _, x0⟩ := h.2.2.2.1 k hk
 have m : zs.getD k 0 ∈ zs := by rw [List.getD_eq_getElem?_getD, List.getElem?_eq_getElem (by rw [h.1]; exact hk)]; exact List.getElem_mem _
 exact ⟨ad, _, e, rfl, x0, h.2.2.2.2 _ m⟩
theorem isl_cell {w : World} {ad : Addr} {n c : Nat} {zs : List Int} (h : ISl w (some ad) n c zs) {k : Nat} (hk : k < n) : w.cell? (ad.add k) = some (.int .i64 (zs.getD k 0)) := by
 obtain ⟨ad', e, _, x0⟩ := h.2.2.2.1 k hk
 injection e with e
 subst e
 exact x0
theorem unipolyResultants_any (Br : Option Addr) (mr dr : Nat) (zr : List Int) (Bo : Option Addr) (mo dO : Nat) (zo : List Int) (Ba : Option Addr) (ma da : Nat) (za : List Int) (Bb : Option Addr) (mb db : Nat) (zb : List Int) (Bc : Option Addr) (mc dc : Nat) (zc : List Int) (w : World) (ir : ISl w Br mr dr zr) (io : ISl w Bo mo dO zo) (ia : ISl w Ba ma da za) (ib : ISl w Bb mb db zb) (ic : ISl w Bc mc dc zc) : Calls Tryz.prog 12 #[.slice Br mr dr, .slice Bo mo dO, .slice Ba ma da, .slice Bb mb db, .slice Bc mc dc] w (Yes w) := by
 have HIr := hI ir
 have HIo := hI io
 obtain ⟨fr, hfr⟩ : ∃ f : Nat -> Int, rt zr = f := ⟨_, rfl⟩
 obtain ⟨fo, hfo⟩ : ∃ f : Nat -> Int, rt zo = f := ⟨_, rfl⟩
 have HF := hI (show (∀ i, (fr i).natAbs <= 9) /\ ∀ i, (fo i).natAbs <= 9 from ⟨fun i => hfr ▸ rt_le zr i, fun i => hfo ▸ rt_le zo i⟩)
 have HFr := hI hfr
 have HFo := hI hfo
 clear hfr hfo ir io
 have Ia := hI ia
 have Ib := hI ib
 have Ic := hI ic
 obtain ⟨a, ha⟩ : ∃ a, polyL za 4 = a := ⟨_, rfl⟩
 obtain ⟨b, hb⟩ : ∃ b, polyL zb 4 = b := ⟨_, rfl⟩
 obtain ⟨c, hc⟩ : ∃ c, polyL zc 4 = c := ⟨_, rfl⟩
 obtain ⟨d, hv⟩ := res_v (a := a) (b := b) (c := c) (ha ▸ kn_poly za 4) (hb ▸ kn_poly zb 4) (hc ▸ kn_poly zc 4)
 have HV := hI hv
 have Ea := hI ha
 have Eb := hI hb
 have Ec := hI hc
 clear ha hb hc ia ib ic hv
 go_enter Tryz.func12, Tryz.ntmps12
 go_wp2_with fail
 refine (sane_any w).mono ?_
 rintro e w1 ⟨rfl, hb⟩
 have B1 := hI hb
 clear hb
 go_wp2_with fail
 refine (lnumber_any 1 w1 (by decide) (by decide)).mono ?_
 rintro e w2 ⟨q1, rfl, hq, hv, hb⟩
 have hn := below_new w2 (.cells (qcells [q1]).toArray 27)
 have HP1 := hI (pv_new w2 [q1] [((1 : Int) : Rat)] (fun y k => by rw [List.mem_singleton.1 k]; exact hq) (Vs.cons hv rfl) (by simp))
 have B2 := hI (below_chain (below_chain B1.out B1.out.size hb) (Nat.le_trans B1.out.size hb.size) hn)
 clear hq hv hb hn B1
 go_wp2_with fail
 have hg1 : World.alloc w2 (.cells (qcells [q1]).toArray 27) = World.alloc w2 (.cells #[.bool q1.g, .slice q1.A q1.n q1.c, .bool q1.gd, .slice q1.Ad q1.nd q1.cd] 27) := rfl
 rw [hg1] at HP1 B2
 clear hg1
 obtain ⟨V2, hV2⟩ : ∃ V : World, World.alloc w2 (.cells #[.bool q1.g, .slice q1.A q1.n q1.c, .bool q1.gd, .slice q1.Ad q1.nd q1.cd] 27) = V := ⟨_, rfl⟩
 rw [hV2] at HP1 B2
 simp only [hV2]
 clear hV2
 obtain ⟨b1, hb1⟩ : ∃ b : Nat, w2.heap.size = b := ⟨_, rfl⟩
 rw [hb1] at HP1
 simp only [hb1]
 clear hb1
 refine (lnumber_any 1 V2 (by decide) (by decide)).mono ?_
 rintro e w3 ⟨q2, rfl, hq, hv, hb⟩
 have hn := below_new w3 (.cells (qcells [q2]).toArray 27)
 have HP2 := hI (pv_new w3 [q2] [((1 : Int) : Rat)] (fun y k => by rw [List.mem_singleton.1 k]; exact hq) (Vs.cons hv rfl) (by simp))
 have HP1b := hI ((HP1.out.on hb).on hn)
 have B3 := hI (below_chain (below_chain B2.out B2.out.size hb) (Nat.le_trans B2.out.size hb.size) hn)
 clear hq hv hb hn B2 HP1
 go_wp2_with fail
 have hg1 : World.alloc w3 (.cells (qcells [q2]).toArray 27) = World.alloc w3 (.cells #[.bool q2.g, .slice q2.A q2.n q2.c, .bool q2.gd, .slice q2.Ad q2.nd q2.cd] 27) := rfl
 rw [hg1] at HP2 B3 HP1b
 clear hg1
 obtain ⟨V3, hV3⟩ : ∃ V : World, World.alloc w3 (.cells #[.bool q2.g, .slice q2.A q2.n q2.c, .bool q2.gd, .slice q2.Ad q2.nd q2.cd] 27) = V := ⟨_, rfl⟩
 rw [hV3] at HP2 B3 HP1b
 simp only [hV3]
 clear hV3
 obtain ⟨b2, hb2⟩ : ∃ b : Nat, w3.heap.size = b := ⟨_, rfl⟩
 rw [hb2] at HP2
 simp only [hb2]
 clear hb2
 refine (lnumber_any 1 V3 (by decide) (by decide)).mono ?_
 rintro e w5 ⟨q3, rfl, hq, hv, hb⟩
 have B5 := hI (below_chain B3.out B3.out.size hb)
 have HP := hI (HP1b.out.on hb)
 have HQ := hI (HP2.out.on hb)
 obtain ⟨L1, hp1, hv1⟩ := HP.out
 have M0 := hI ((((Mem.nil w5).old (x := .pol (some ⟨b1, 0, none⟩) 1 1 L1) (by simp) hp1 rfl).newBox hq _ rfl).perm (List.Perm.swap _ _ _))
 have H0 := hI (show RsR w5 w5.heap.size (some ⟨b1, 0, none⟩) 1 1 (pf (fun i => (fr i : Rat)) 0) (ws (fun i => (fr i : Rat)) (fun i => (fo i : Rat)) (min mo 4) 0) (w5.alloc (.cells #[.bool q3.g, .slice q3.A q3.n q3.c, .bool q3.gd, .slice q3.Ad q3.nd q3.cd] 27)) from ⟨q3, L1, M0.out, hv, hv1⟩)
 clear hq hv hb hp1 hv1 M0 HP HP1b HP2 B3
 have HIr5 := hI (HIr.out.on B5.out)
 have HIo5 := hI (HIo.out.on B5.out)
 have hmr : mr <= 9223372036854775807 := Nat.le_trans HIr5.out.2.1 HIr5.out.2.2.1
 have hmo : mo <= 9223372036854775807 := Nat.le_trans HIo5.out.2.1 HIo5.out.2.2.1
 obtain ⟨MM, hMM⟩ : ∃ m : Nat, min mo 4 = m := ⟨_, rfl⟩
 have HMM := hI hMM
 rw [hMM] at H0
 clear hMM
 go_wp2_with fail
 obtain ⟨r, hr⟩ : ∃ r : Nat, w5.heap.size = r := ⟨_, rfl⟩
 have HR5 := hI hr
 rw [hr] at H0
 simp only [hr]
 clear hr
 go_loopw [11, 14] (fun pv v wr => ∃ (k : Nat) (A : Option Addr) (n c : Nat), pv = .slice A n c /\ v = .int .i64 k /\ k <= mr /\ k <= 4 /\ Hid (RsR w5 r A n c (pf (fun i => (fr i : Rat)) k) (ws (fun i => (fr i : Rat)) (fun i => (fo i : Rat)) MM k) wr)) (fun _ v _ => mr - (intOf v).toNat)
 case atStart => exact ⟨0, _, _, _, rfl, rfl, Nat.zero_le _, Nat.zero_le _, H0⟩
 case round =>
  obtain ⟨k, Ak, nk, ck, rfl, rfl, hk, hk4, HR1⟩ := hrel
  have HR := hI HR1.out
  clear H0 HR1
  obtain ⟨qw, L, HM⟩ := HR.out
  have HM := hI HM
  clear HR
  by_cases hlt : k < mr /\ k < 4
  . obtain ⟨hlt, hlt4⟩ := hlt
    obtain ⟨adr, z, rfl, hz, x0, hz1, hz2⟩ := isl_el (HIr5.out.on HM.out.1.bel) hlt
    obtain ⟨pc, hpc⟩ : ∃ p : Int, pk z 19 = p := ⟨_, rfl⟩
    have hp1 : 0 <= pc := by rw [<- hpc]; exact pk_lo z (by decide)
    have hp2 : pc < 19 := by rw [<- hpc]; exact pk_hi z (by decide)
    have HFK := hI (show fr k = pc - 9 by rw [<- HFr.out]; unfold rt; rw [hz, hpc])
    have HZ := hI (And.intro hz hpc)
    go_wp2_with fail
    have C := pick_any z 19 wr hz1 hz2 (by decide) (by decide)
    rw [hpc] at C
    refine C.mono ?_
    clear C x0 hpc hz
    rintro e w6 ⟨rfl, rfl⟩
    go_wp2_with fail
    refine (linear_any (pc - 9) wr (by omega) (by omega)).mono ?_
    rintro e w7 ⟨A2, n2, c2, rfl, hp, hb⟩
    have M7 := hI (HM.out.1.on hb)
    have HP2 := hI hp
    clear hp hb
    go_wp2_with fail
    have C := Mul_fresh Ak nk ck (pf (fun i => (fr i : Rat)) k) A2 n2 c2 (lin' (pc - 9)) w7 ⟨L, M7.out.pol 0 rfl, HM.out.2.2⟩ HP2.out (pf_ok HF.out.1 hk4).1 (lin_ok (pc - 9)).1 (pf_ok HF.out.1 hk4).2 (lin_ok (pc - 9)).2
    rw [show pmulO (pf (fun i => (fr i : Rat)) k) (lin' (pc - 9)) = .ok (pf (fun i => (fr i : Rat)) (k + 1)) by rw [lin_eq, <- HFK.out]; exact pf_mulO HF.out.1 hlt4] at C
    refine C.mono ?_
    clear C
    rintro e w8 ⟨A3, n3, c3, rfl, ⟨L3, hp, hv⟩, hf, hb⟩
    have M8 := hI ((M7.out.addPol hb hp hf).sub (l' := [.pol A3 n3 c3 L3, .box r qw]) (by simp))
    have H1 := hI (show RsR w5 r A3 n3 c3 (pf (fun i => (fr i : Rat)) (k + 1)) (dw (fun i => (fo i : Rat)) (ws (fun i => (fr i : Rat)) (fun i => (fo i : Rat)) MM k) (fr k : Rat) 0) w8 from ⟨qw, L3, M8.out, HM.out.2.1, hv⟩)
    clear hp hv hf hb M7 M8 HP2 HM
    go_wp2_with fail
    go_loopw [15] (fun v wr => ∃ j : Nat, v = .int .i64 j /\ j <= mo /\ j <= 4 /\ Hid (RsR w5 r A3 n3 c3 (pf (fun i => (fr i : Rat)) (k + 1)) (dw (fun i => (fo i : Rat)) (ws (fun i => (fr i : Rat)) (fun i => (fo i : Rat)) MM k) (fr k : Rat) j) wr)) (fun v _ => mo - (intOf v).toNat)
    case atStart => exact ⟨0, rfl, Nat.zero_le _, Nat.zero_le _, H1⟩
    case round =>
     obtain ⟨j, rfl, hj, hj4, HR1⟩ := hrel
     have HR := hI HR1.out
     clear H1 HR1
     obtain ⟨qw2, L4, HM⟩ := HR.out
     have HM := hI HM
     clear HR
     by_cases hjt : j < mo /\ j < 4
     . obtain ⟨hjt, hjt4⟩ := hjt
       obtain ⟨ado, zj, rfl, hzj, _, hy1, hy2⟩ := isl_el (HIo5.out.on HM.out.1.bel) hjt
       obtain ⟨po, hpo⟩ : ∃ p : Int, pk zj 19 = p := ⟨_, rfl⟩
       have ho1 : 0 <= po := by rw [<- hpo]; exact pk_lo zj (by decide)
       have ho2 : po < 19 := by rw [<- hpo]; exact pk_hi zj (by decide)
       have HFJ := hI (show fo j = po - 9 by rw [<- HFo.out]; unfold rt; rw [hzj, hpo])
       have HZJ := hI (And.intro hzj hpo)
       clear hzj hpo
       have hw : IntKind.i64.wrap (pc - po) = pc - po := IntWalk.i64_in _ (by omega)
       go_upto_region 13 with fail
       refine anyM_start (fun w' => Mem w5 w' [.pol A3 n3 c3 L4, .box r qw2]) [17] 18 (by kernel_rfl) (by kernel_rfl) ?_
       have hS := HM.out.1.drew
       refine anyM_take (v := ?_) 0 (some 73) rfl (by kernel_rfl) (by kernel_rfl) (fun _ _ _ h => h) (by rfl) ?_ hS ?_; rotate_left
       . (intro w' hSw; obtain ⟨x0, x1, x2, x3⟩ := (hSw.box 1 rfl).cs; go_simp; try with_reducible rfl)
       try simp only [Act.put, List.setIfInBounds_toArray, List.set_cons_zero, List.set_cons_succ]
       refine anyM_take (v := ?_) 1 (some 74) rfl (by kernel_rfl) (by kernel_rfl) (fun _ _ _ h => h) (by rfl) ?_ hS ?_; rotate_left
       . (intro w' hSw; go_simp; try with_reducible rfl)
       try simp only [Act.put, List.setIfInBounds_toArray, List.set_cons_zero, List.set_cons_succ]
       refine anyM_take (v := ?_) 2 (some 75) rfl (by kernel_rfl) (by kernel_rfl) (fun _ _ _ h => h) (by rfl) ?_ hS ?_; rotate_left
       . (intro w' hSw; go_simp; try with_reducible rfl)
       try simp only [Act.put, List.setIfInBounds_toArray, List.set_cons_zero, List.set_cons_succ]
       refine anyM_take (v := ?_) 3 (some 76) rfl (by kernel_rfl) (by kernel_rfl) (fun _ _ _ h => h) (by rfl) ?_ hS ?_; rotate_left
       . (intro w' hSw; go_simp; try with_reducible rfl)
       try simp only [Act.put, List.setIfInBounds_toArray, List.set_cons_zero, List.set_cons_succ]
       refine anyM_take (v := ?_) 4 (some 77) rfl (by kernel_rfl) (by kernel_rfl) (fun _ _ _ h => h) (by rfl) ?_ hS ?_; rotate_left
       . (intro w' hSw; have y0 := isl_cell (HIr5.out.on hSw.bel) hlt; rw [HZ.out.1] at y0; go_simp; try with_reducible rfl)
       try simp only [Act.put, List.setIfInBounds_toArray, List.set_cons_zero, List.set_cons_succ]
       refine anyM_take (v := ?_) 6 (some 79) rfl (by kernel_rfl) (by kernel_rfl) (fun _ _ _ h => h) (by rfl) ?_ hS ?_; rotate_left
       . (intro w' hSw; go_simp; try with_reducible rfl)
       try simp only [Act.put, List.setIfInBounds_toArray, List.set_cons_zero, List.set_cons_succ]
       refine anyM_take (v := ?_) 7 (some 80) rfl (by kernel_rfl) (by kernel_rfl) (fun _ _ _ h => h) (by rfl) ?_ hS ?_; rotate_left
       . (intro w' hSw; go_simp; try with_reducible rfl)
       try simp only [Act.put, List.setIfInBounds_toArray, List.set_cons_zero, List.set_cons_succ]
       refine anyM_take (v := ?_) 8 (some 81) rfl (by kernel_rfl) (by kernel_rfl) (fun _ _ _ h => h) (by rfl) ?_ hS ?_; rotate_left
       . (intro w' hSw; go_simp; try with_reducible rfl)
       try simp only [Act.put, List.setIfInBounds_toArray, List.set_cons_zero, List.set_cons_succ]
       refine anyM_take (v := ?_) 9 (some 82) rfl (by kernel_rfl) (by kernel_rfl) (fun _ _ _ h => h) (by rfl) ?_ hS ?_; rotate_left
       . (intro w' hSw; have y0 := isl_cell (HIo5.out.on hSw.bel) hjt; rw [HZJ.out.1] at y0; go_simp; try with_reducible rfl)
       try simp only [Act.put, List.setIfInBounds_toArray, List.set_cons_zero, List.set_cons_succ]
       refine anyM_one 5 (by kernel_rfl) rfl (by rfl) (fun KK hKK => ?_)
       go_simp
       have C := pick_any z 19 wr.drew hz1 hz2 (by decide) (by decide)
       rw [HZ.out.2] at C
       refine C.mono ?_
       clear C
       rintro e w9 ⟨rfl, rfl⟩
       refine hKK.out _ _ (Or.inr hS) ?_
       clear hKK KK 
       try simp only [Act.put, List.setIfInBounds_toArray, List.set_cons_zero, List.set_cons_succ]
       refine anyM_one 10 (by kernel_rfl) rfl (by rfl) (fun KK hKK => ?_)
       go_simp
       have C := pick_any zj 19 wr.drew hy1 hy2 (by decide) (by decide)
       rw [HZJ.out.2] at C
       refine C.mono ?_
       clear C
       rintro e w9 ⟨rfl, rfl⟩
       refine hKK.out _ _ (Or.inr hS) ?_
       clear hKK KK 
       try simp only [Act.put, List.setIfInBounds_toArray, List.set_cons_zero, List.set_cons_succ]
       refine anyM_take (v := ?_) 11 (some 84) rfl (by kernel_rfl) (by kernel_rfl) (fun _ _ _ h => h) (by rfl) ?_ hS ?_; rotate_left
       . (intro w' hSw; go_simp; try with_reducible rfl)
       try simp only [Act.put, List.setIfInBounds_toArray, List.set_cons_zero, List.set_cons_succ]
       refine anyM_one 12 (by kernel_rfl) rfl (by rfl) (fun KK hKK => ?_)
       go_simp
       refine (lnumber_any (pc - po) wr.drew (by omega) (by omega)).mono ?_
       rintro e w9 ⟨qd, rfl, hq, hv, hb⟩
       have M9 := hI ((hS.on hb).addRat hq)
       have VD := hI hv
       clear hq hv hb hS
       refine hKK.out _ _ (Or.inr (M9.out.drop 1)) ?_
       clear hKK KK 
       try simp only [Act.put, List.setIfInBounds_toArray, List.set_cons_zero, List.set_cons_succ]
       refine anyM_one 13 (by kernel_rfl) rfl (by rfl) (fun KK hKK => ?_)
       go_simp
       refine (mul_okO (M9.out.box 2 rfl).sl (M9.out.rat 0 rfl) HM.out.2.1 VD.out (show mulO _ _ = .ok (dw (fun i => (fo i : Rat)) (ws (fun i => (fr i : Rat)) (fun i => (fo i : Rat)) MM k) (fr k : Rat) (j + 1)) from by rw [show pc - po = fr k - fo j by rw [HFK.out, HFJ.out]; omega]; exact dw_mulO HF.out.1 HF.out.2 (by rw [<- HMM.out]; omega) hlt4 (by rw [<- HMM.out]; omega))).mono ?_
       rintro e w10 ⟨qn, rfl, hq, hv, hb⟩
       have M10 := hI (((M9.out.drop 1).on hb).addRat hq)
       have VN := hI hv
       clear hq hv hb M9 VD
       refine hKK.out _ _ (Or.inr (M10.out.drop 1)) ?_
       clear hKK KK 
       try simp only [Act.put, List.setIfInBounds_toArray, List.set_cons_zero, List.set_cons_succ]
       have hS := M10.out.drop 1
       refine anyM_take (v := ?_) 14 (some 72) rfl (by kernel_rfl) (by kernel_rfl) (fun _ _ _ h => h) (by rfl) ?_ hS ?_; rotate_left
       . (intro w' hSw; go_simp; try with_reducible rfl)
       try simp only [Act.put, List.setIfInBounds_toArray, List.set_cons_zero, List.set_cons_succ]
       refine anyM_take (v := ?_) 15 (some 87) rfl (by kernel_rfl) (by kernel_rfl) (fun _ _ _ h => h) (by rfl) ?_ hS ?_; rotate_left
       . (intro w' hSw; go_simp; try with_reducible rfl)
       try simp only [Act.put, List.setIfInBounds_toArray, List.set_cons_zero, List.set_cons_succ]
       obtain ⟨f0, f1, f2, f3⟩ := (M10.out.box 2 rfl).fs
       obtain ⟨c0, c1, c2, c3⟩ := (M10.out.box 2 rfl).cs
       refine anyM_br2 16 17 (by kernel_rfl) rfl rfl (by rfl) (by rfl) (fun KK hKK => ?_) (fun KK hKK => ?_)
       . go_simp
         refine hKK.out _ _ (Or.inr hS) ?_
         clear hKK KK 
         try simp only [Act.put, List.setIfInBounds_toArray, List.set_cons_zero, List.set_cons_succ]
         clear hS
         refine anyM_one 17 (by kernel_rfl) rfl (by rfl) (fun KK hKK => ?_)
         go_simp
         refine hKK.out _ _ (Or.inl (by kernel_rfl)) ?_
         clear hKK KK f0 f1 f2 f3 c0 c1 c2 c3
         try simp only [Act.put, List.setIfInBounds_toArray, List.set_cons_zero, List.set_cons_succ]
         refine anyM_done (by kernel_rfl) ?_ _
         generalize hU : World.setCell (World.setCell (World.setCell (World.setCell w10 _ _) _ _) _ _) _ _ = U
         have M11 := hI ((M10.out.putU 2 rfl (M10.out.rat 0 rfl) hU).drop 1)
         have HR2 := hI (show RsR w5 r A3 n3 c3 (pf (fun i => (fr i : Rat)) (k + 1)) (dw (fun i => (fo i : Rat)) (ws (fun i => (fr i : Rat)) (fun i => (fo i : Rat)) MM k) (fr k : Rat) (j + 1)) U from ⟨qn, L4, M11.out, VN.out, HM.out.2.2⟩)
         clear hU M10 M11 VN HM
         go_wp2
         go_roundw
         case rel => exact ⟨j + 1, by go_num, by omega, by omega, HR2⟩
         case measure => simp [intOf]; omega
       . go_simp
         clear hS
         refine hKK.out _ _ (Or.inl (by kernel_rfl)) ?_
         clear hKK KK f0 f1 f2 f3 c0 c1 c2 c3
         try simp only [Act.put, List.setIfInBounds_toArray, List.set_cons_zero, List.set_cons_succ]
         refine anyM_one 16 (by kernel_rfl) rfl (by rfl) (fun KK hKK => ?_)
         go_simp
         refine hKK.out _ _ (Or.inl (by kernel_rfl)) ?_
         clear hKK KK 
         try simp only [Act.put, List.setIfInBounds_toArray, List.set_cons_zero, List.set_cons_succ]
         refine anyM_done (by kernel_rfl) ?_ _
         generalize hU : World.setCell (World.setCell (World.setCell (World.setCell w10 _ _) _ _) _ _) _ _ = U
         have M11 := hI ((M10.out.putU 2 rfl (M10.out.rat 0 rfl) hU).drop 1)
         have HR2 := hI (show RsR w5 r A3 n3 c3 (pf (fun i => (fr i : Rat)) (k + 1)) (dw (fun i => (fo i : Rat)) (ws (fun i => (fr i : Rat)) (fun i => (fo i : Rat)) MM k) (fr k : Rat) (j + 1)) U from ⟨qn, L4, M11.out, VN.out, HM.out.2.2⟩)
         clear hU M10 M11 VN HM
         go_wp2
         go_roundw
         case rel => exact ⟨j + 1, by go_num, by omega, by omega, HR2⟩
         case measure => simp [intOf]; omega
     . have hjm : j = MM := by rw [<- HMM.out]; omega
       have HR2 := hI (show RsR w5 r A3 n3 c3 (pf (fun i => (fr i : Rat)) (k + 1)) (ws (fun i => (fr i : Rat)) (fun i => (fo i : Rat)) MM (k + 1)) wr from ⟨qw2, L4, HM.out.1, by have h := HM.out.2.1; rw [hjm] at h; exact h, HM.out.2.2⟩)
       clear HM hjm
       rcases (show (j < mo /\ ¬ j < 4) \/ ¬ j < mo by omega) with ⟨hj1, hj2⟩ | hj1
       all_goals
        go_wp2_with fail
        go_roundw
        case rel => exact ⟨k + 1, A3, n3, c3, rfl, by go_num, by omega, by omega, HR2⟩
        case measure => simp [intOf]; omega
  . have HK := hI (show k = min mr 4 by omega)
    rcases (show (k < mr /\ ¬ k < 4) \/ ¬ k < mr by omega) with ⟨hk1, hk2⟩ | hk1
    all_goals
     go_wp2_with fail
     have H2 := hI (show PV wr (some ⟨b2, 0, none⟩) 1 1 (pf (fun i => (fo i : Rat)) 0) from HQ.out.on HM.out.1.bel)
     obtain ⟨W, hW⟩ : ∃ W : World, wr = W := ⟨_, rfl⟩
     rw [hW] at H2
     have HMW := hI (hW ▸ HM.out.1)
     have HVW := hI HM.out.2
     simp only [hW]
     clear HM hW
     go_loopw [12, 16] (fun qv v wr => ∃ (j : Nat) (A9 : Option Addr) (n9 c9 : Nat), qv = .slice A9 n9 c9 /\ v = .int .i64 j /\ j <= mo /\ j <= 4 /\ Hid (PV wr A9 n9 c9 (pf (fun i => (fo i : Rat)) j)) /\ Hid (Below W.heap.size W wr)) (fun _ v _ => mo - (intOf v).toNat)
     case atStart => exact ⟨0, _, _, _, rfl, rfl, Nat.zero_le _, Nat.zero_le _, H2, hI (Below.refl _ _)⟩
     case round =>
      obtain ⟨j, A9, n9, c9, rfl, rfl, hj, hj4, HR1, HB1⟩ := hrel
      have HR := hI HR1.out
      have HB := hI HB1.out
      clear H2 HR1 HB1
      by_cases hjt : j < mo /\ j < 4
      . obtain ⟨hjt, hjt4⟩ := hjt
        obtain ⟨ado, zj, rfl, hzj, x0, hy1, hy2⟩ := isl_el ((HIo5.out.on HMW.out.bel).on HB.out) hjt
        obtain ⟨po, hpo⟩ : ∃ p : Int, pk zj 19 = p := ⟨_, rfl⟩
        have ho1 : 0 <= po := by rw [<- hpo]; exact pk_lo zj (by decide)
        have ho2 : po < 19 := by rw [<- hpo]; exact pk_hi zj (by decide)
        have HFJ := hI (show fo j = po - 9 by rw [<- HFo.out]; unfold rt; rw [hzj, hpo])
        clear hzj
        go_wp2_with fail
        have C := pick_any zj 19 wr hy1 hy2 (by decide) (by decide)
        rw [hpo] at C
        refine C.mono ?_
        clear C x0 hpo
        rintro e w6 ⟨rfl, rfl⟩
        go_wp2_with fail
        refine (linear_any (po - 9) wr (by omega) (by omega)).mono ?_
        rintro e w7 ⟨A2, n2, c2, rfl, hp, hb⟩
        have HP7 := hI (HR.out.on hb)
        have HB7 := hI (below_chain HB.out HB.out.size hb)
        have HP2 := hI hp
        clear hp hb HR HB
        go_wp2_with fail
        have C := Mul_any _ _ _ (pf (fun i => (fo i : Rat)) j) A2 n2 c2 (lin' (po - 9)) w7 HP7.out HP2.out (pf_ok HF.out.2 hj4).1 (lin_ok (po - 9)).1 (pf_ok HF.out.2 hj4).2 (lin_ok (po - 9)).2
        rw [show pmulO (pf (fun i => (fo i : Rat)) j) (lin' (po - 9)) = .ok (pf (fun i => (fo i : Rat)) (j + 1)) by rw [lin_eq, <- HFJ.out]; exact pf_mulO HF.out.2 hjt4] at C
        refine C.mono ?_
        clear C
        rintro e w8 ⟨A8, n8, c8, rfl, hp, hb⟩
        have HR2 := hI hp
        have HB2 := hI (below_chain HB7.out HB7.out.size hb)
        clear hp hb HP7 HP2 HB7
        go_wp2
        go_roundw
        case rel => exact ⟨j + 1, A8, n8, c8, rfl, by go_num, by omega, by omega, HR2, HB2⟩
        case measure => simp [intOf]; omega
      . have HJ := hI (show j = MM by rw [<- HMM.out]; omega)
        rcases (show (j < mo /\ ¬ j < 4) \/ ¬ j < mo by omega) with ⟨hj1, hj2⟩ | hj1
        all_goals
         have M20 := hI (show Lm w wr [.b r qw (ws (fun i => (fr i : Rat)) (fun i => (fo i : Rat)) MM k), .p A9 n9 c9 (pf (fun i => (fo i : Rat)) j), .p Ak nk ck (pf (fun i => (fr i : Rat)) k)] from ((((Lm.nil w).on (below_chain (below_chain B5.out B5.out.size HMW.out.bel) (Nat.le_trans B5.out.size HMW.out.bel.size) HB.out)).add (x := .p Ak nk ck (pf (fun i => (fr i : Rat)) k)) ⟨⟨L, (HMW.out.pol 0 rfl).on HB.out, HVW.out.2⟩, pf_ok HF.out.1 hk4⟩).add (x := .p A9 n9 c9 (pf (fun i => (fo i : Rat)) j)) ⟨HR.out, pf_ok HF.out.2 hj4⟩).add (x := .b r qw (ws (fun i => (fr i : Rat)) (fun i => (fo i : Rat)) MM k)) ⟨(HMW.out.box 1 rfl).on HB.out, HVW.out.1⟩)
         have HRV := hI (show resO (resN (pf (fun i => (fr i : Rat)) k) (pf (fun i => (fo i : Rat)) j)) (pf (fun i => (fr i : Rat)) k) (pf (fun i => (fo i : Rat)) j) = .ok (ws (fun i => (fr i : Rat)) (fun i => (fo i : Rat)) MM k) from (roots_v HF.out.1 HF.out.2 hk4 hj4).trans (by rw [HJ.out]))
         clear HMW HVW HR HB HJ HK HQ
         go_wp2_with fail
         have C := Resultant_any _ _ _ _ _ _ _ _ wr (M20.out.p 2 rfl).1 (M20.out.p 1 rfl).1 (M20.out.p 2 rfl).2.1 (M20.out.p 1 rfl).2.1 (M20.out.p 2 rfl).2.2 (M20.out.p 1 rfl).2.2
         rw [HRV.out] at C
         refine C.mono ?_
         clear C
         rintro e w21 ⟨qv, rfl, hq, hv, hb⟩
         have M22 := hI (M20.out.on hb)
         clear M20 hb
         have hn := below_new w21 (.cells #[.bool qv.g, .slice qv.A qv.n qv.c, .bool qv.gd, .slice qv.Ad qv.nd qv.cd] 27)
         have M23 := hI ((M22.out.on hn).add (x := .b w21.heap.size qv (ws (fun i => (fr i : Rat)) (fun i => (fo i : Rat)) MM k)) ⟨((Mem.nil w21).newBox hq _ rfl).box 0 rfl, hv⟩)
         clear hn M22 hq hv
         obtain ⟨cv0, cv1, cv2, cv3⟩ := (M23.out.b 0 rfl).1.cs
         obtain ⟨cwant0, cwant1, cwant2, cwant3⟩ := (M23.out.b 1 rfl).1.cs
         go_wp2_with fail
         clear cv0 cv1 cv2 cv3 cwant0 cwant1 cwant2 cwant3
         refine (sameRat_yes _ _ (ws (fun i => (fr i : Rat)) (fun i => (fo i : Rat)) MM k) (w21.alloc (.cells #[.bool qv.g, .slice qv.A qv.n qv.c, .bool qv.gd, .slice qv.Ad qv.nd qv.cd] 27)) (M23.out.b 0 rfl).1.sl (M23.out.b 1 rfl).1.sl (M23.out.b 0 rfl).2 (M23.out.b 1 rfl).2).mono ?_
         rintro e w24 ⟨rfl, hb⟩
         have M25 := hI (M23.out.on hb)
         clear M23 hb
         go_wp2_with fail
         have C := poly_any Ba ma da za 4 w24 ((Ia.out).on M25.out.bel) (by decide)
         rw [Ea.out] at C
         refine C.mono ?_
         clear C
         rintro e w26 ⟨Aa, na, ca, rfl, hp, hb⟩
         have M26 := hI ((M25.out.on hb).add (x := .p Aa na ca a) ⟨hp, HV.out.ka.ok (by decide)⟩)
         clear M25 hp hb
         go_wp2_with fail
         have C := poly_any Bb mb db zb 4 w26 ((Ib.out).on M26.out.bel) (by decide)
         rw [Eb.out] at C
         refine C.mono ?_
         clear C
         rintro e w27 ⟨Ab, nb, cb, rfl, hp, hb⟩
         have M27 := hI ((M26.out.on hb).add (x := .p Ab nb cb b) ⟨hp, HV.out.kb.ok (by decide)⟩)
         clear M26 hp hb
         go_wp2_with fail
         have C := poly_any Bc mc dc zc 4 w27 ((Ic.out).on M27.out.bel) (by decide)
         rw [Ec.out] at C
         refine C.mono ?_
         clear C
         rintro e w28 ⟨Ac, nc, cc, rfl, hp, hb⟩
         have M28 := hI ((M27.out.on hb).add (x := .p Ac nc cc c) ⟨hp, HV.out.kc.ok (by decide)⟩)
         clear M27 hp hb
         go_wp2_with fail
         have C := Mul_any _ _ _ _ _ _ _ _ w28 (M28.out.p 2 rfl).1 (M28.out.p 1 rfl).1 (M28.out.p 2 rfl).2.1 (M28.out.p 1 rfl).2.1 (M28.out.p 2 rfl).2.2 (M28.out.p 1 rfl).2.2
         rw [HV.out.ab.1] at C
         refine C.mono ?_
         clear C
         rintro e w29 ⟨Aab, nab, cab, rfl, hp, hb⟩
         have M29 := hI ((M28.out.on hb).add (x := .p Aab nab cab (pmul a b)) ⟨hp, HV.out.ab.2⟩)
         clear M28 hp hb
         go_wp2_with fail
         have C := Resultant_any _ _ _ _ _ _ _ _ w29 (M29.out.p 0 rfl).1 (M29.out.p 1 rfl).1 (M29.out.p 0 rfl).2.1 (M29.out.p 1 rfl).2.1 (M29.out.p 0 rfl).2.2 (M29.out.p 1 rfl).2.2
         rw [HV.out.x] at C
         refine C.mono ?_
         clear C
         rintro e w30 ⟨qx, rfl, hq, hv, hb⟩
         have M31 := hI (M29.out.on hb)
         clear M29 hb
         have hn := below_new w30 (.cells #[.bool qx.g, .slice qx.A qx.n qx.c, .bool qx.gd, .slice qx.Ad qx.nd qx.cd] 27)
         have M32 := hI ((M31.out.on hn).add (x := .b w30.heap.size qx (rsl a c * rsl b c)) ⟨((Mem.nil w30).newBox hq _ rfl).box 0 rfl, hv⟩)
         clear hn M31 hq hv
         go_wp2_with fail
         have C := Resultant_any _ _ _ _ _ _ _ _ (w30.alloc (.cells #[.bool qx.g, .slice qx.A qx.n qx.c, .bool qx.gd, .slice qx.Ad qx.nd qx.cd] 27)) (M32.out.p 4 rfl).1 (M32.out.p 2 rfl).1 (M32.out.p 4 rfl).2.1 (M32.out.p 2 rfl).2.1 (M32.out.p 4 rfl).2.2 (M32.out.p 2 rfl).2.2
         rw [HV.out.y] at C
         refine C.mono ?_
         clear C
         rintro e w33 ⟨qy, rfl, hq, hv, hb⟩
         have M34 := hI (M32.out.on hb)
         clear M32 hb
         have hn := below_new w33 (.cells #[.bool qy.g, .slice qy.A qy.n qy.c, .bool qy.gd, .slice qy.Ad qy.nd qy.cd] 27)
         have M35 := hI ((M34.out.on hn).add (x := .b w33.heap.size qy (rsl a c)) ⟨((Mem.nil w33).newBox hq _ rfl).box 0 rfl, hv⟩)
         clear hn M34 hq hv
         go_wp2_with fail
         have C := Resultant_any _ _ _ _ _ _ _ _ (w33.alloc (.cells #[.bool qy.g, .slice qy.A qy.n qy.c, .bool qy.gd, .slice qy.Ad qy.nd qy.cd] 27)) (M35.out.p 4 rfl).1 (M35.out.p 3 rfl).1 (M35.out.p 4 rfl).2.1 (M35.out.p 3 rfl).2.1 (M35.out.p 4 rfl).2.2 (M35.out.p 3 rfl).2.2
         rw [HV.out.z] at C
         refine C.mono ?_
         clear C
         rintro e w36 ⟨qz, rfl, hq, hv, hb⟩
         have M37 := hI (M35.out.on hb)
         clear M35 hb
         have hn := below_new w36 (.cells #[.bool qz.g, .slice qz.A qz.n qz.c, .bool qz.gd, .slice qz.Ad qz.nd qz.cd] 27)
         have M38 := hI ((M37.out.on hn).add (x := .b w36.heap.size qz (rsl b c)) ⟨((Mem.nil w36).newBox hq _ rfl).box 0 rfl, hv⟩)
         clear hn M37 hq hv
         obtain ⟨cy0, cy1, cy2, cy3⟩ := (M38.out.b 1 rfl).1.cs
         obtain ⟨cz0, cz1, cz2, cz3⟩ := (M38.out.b 0 rfl).1.cs
         go_wp2_with fail
         clear cy0 cy1 cy2 cy3 cz0 cz1 cz2 cz3
         refine (mul_okO (M38.out.b 1 rfl).1.sl (M38.out.b 0 rfl).1.sl (M38.out.b 1 rfl).2 (M38.out.b 0 rfl).2 HV.out.p).mono ?_
         rintro e w39 ⟨qpr, rfl, hq, hv, hb⟩
         have M40 := hI (M38.out.on hb)
         clear M38 hb
         have hn := below_new w39 (.cells #[.bool qpr.g, .slice qpr.A qpr.n qpr.c, .bool qpr.gd, .slice qpr.Ad qpr.nd qpr.cd] 27)
         have M41 := hI ((M40.out.on hn).add (x := .b w39.heap.size qpr (rsl a c * rsl b c)) ⟨((Mem.nil w39).newBox hq _ rfl).box 0 rfl, hv⟩)
         clear hn M40 hq hv
         obtain ⟨cx0, cx1, cx2, cx3⟩ := (M41.out.b 3 rfl).1.cs
         obtain ⟨cpr0, cpr1, cpr2, cpr3⟩ := (M41.out.b 0 rfl).1.cs
         go_wp2_with fail
         clear cx0 cx1 cx2 cx3 cpr0 cpr1 cpr2 cpr3
         refine (sameRat_yes _ _ (rsl a c * rsl b c) (w39.alloc (.cells #[.bool qpr.g, .slice qpr.A qpr.n qpr.c, .bool qpr.gd, .slice qpr.Ad qpr.nd qpr.cd] 27)) (M41.out.b 3 rfl).1.sl (M41.out.b 0 rfl).1.sl (M41.out.b 3 rfl).2 (M41.out.b 0 rfl).2).mono ?_
         rintro e w42 ⟨rfl, hb⟩
         have M43 := hI (M41.out.on hb)
         clear M41 hb
         go_wp2_with fail
         have C := GCD_any _ _ _ _ _ _ _ _ w42 (M43.out.p 7 rfl).1 (M43.out.p 5 rfl).1 (M43.out.p 7 rfl).2.1 (M43.out.p 5 rfl).2.1 (M43.out.p 7 rfl).2.2 (M43.out.p 5 rfl).2.2
         rw [HV.out.ed.1] at C
         refine C.mono ?_
         clear C
         rintro e w44 ⟨Ad, nd, cd, rfl, hp, hb⟩
         have M44 := hI ((M43.out.on hb).add (x := .p Ad nd cd d) ⟨hp, HV.out.ed.2⟩)
         clear M43 hp hb
         by_cases z1 : a.length = 0
         . have hz : na = 0 := (M44.out.p 8 rfl).1.len.trans z1
           clear z1
           subst hz
           go_wp2
           go_ret
           exact ⟨rfl, M44.out.bel⟩
         . by_cases z2 : c.length = 0
           . have hn1 : ((na : Int) == 0) = false := by rw [beq_eq_false_iff_ne]; have := (M44.out.p 8 rfl).1.len; omega
             have hz : nc = 0 := (M44.out.p 6 rfl).1.len.trans z2
             clear z1 z2
             subst hz
             go_wp2
             go_ret
             exact ⟨rfl, M44.out.bel⟩
           . have HS := hI (show Sgn a c d from HV.out.fin z1 z2)
             have hn1 : ((na : Int) == 0) = false := by rw [beq_eq_false_iff_ne]; have := (M44.out.p 8 rfl).1.len; omega
             have hn2 : ((nc : Int) == 0) = false := by rw [beq_eq_false_iff_ne]; have := (M44.out.p 6 rfl).1.len; omega
             clear z1 z2
             obtain ⟨cy0, cy1, cy2, cy3⟩ := (M44.out.b 3 rfl).1.cs
             go_wp2_with fail
             clear cy0 cy1 cy2 cy3
             have C := sign_q (M44.out.b 3 rfl).1.sl (M44.out.b 3 rfl).2
             by_cases z3 : 1 < d.length
             . have hs : (rsl a c).num.sign = 0 := by have h := HS.out; unfold Sgn at h; rw [decide_eq_true z3] at h; exact beq_iff_eq.1 h
               rw [hs] at C
               have hd1 : (1 : Int) < nd := by have := (M44.out.p 0 rfl).1.len; omega
               clear z3 hs
               refine C.mono ?_
               clear C
               rintro e w45 ⟨rfl, hb⟩
               have M46 := hI (M44.out.on hb)
               clear M44 hb
               go_wp2
               go_ret
               exact ⟨rfl, M46.out.bel⟩
             . obtain ⟨sg, hsg⟩ : ∃ s : Int, (rsl a c).num.sign = s := ⟨_, rfl⟩
               have hs0 : (sg == 0) = false := by have h := HS.out; unfold Sgn at h; rw [decide_eq_false z3, hsg] at h; exact h
               rw [hsg] at C
               have hd1 : decide ((1 : Int) < nd) = false := decide_eq_false (by have := (M44.out.p 0 rfl).1.len; omega)
               clear z3 hsg
               refine C.mono ?_
               clear C
               rintro e w45 ⟨rfl, hb⟩
               have M46 := hI (M44.out.on hb)
               clear M44 hb
               go_wp2
               go_ret
               exact ⟨rfl, M46.out.bel⟩
end Go.Proofs.YtmncfbfepdbioaaGreatDoor
