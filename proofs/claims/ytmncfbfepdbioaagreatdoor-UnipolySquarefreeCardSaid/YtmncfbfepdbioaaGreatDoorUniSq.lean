/-
 Stage 3: Squarefree.
-/
import Derived.Test.YtmncfbfepdbioaaGreatDoorBehindQ
import Derived.Test.YtmncfbfepdbioaaGreatDoorUniMf
import Derived.Test.YtmncfbfepdbioaaGreatDoorUniLm
import Derived.Test.YtmncfbfepdbioaaGreatDoorPolV
import Derived.Test.YtmncfbfepdbioaaGreatDoorPolSq
set_option linter.unusedSimpArgs false
set_option linter.unusedVariables false
set_option maxRecDepth 20000
set_option maxHeartbeats 4000000
namespace Go.Proofs.YtmncfbfepdbioaaGreatDoor
open Go.RowKit
theorem gcdO_tr : ∀ (F : Nat) (a b g : List Rat), Tr a -> Tr b -> gcdO F a b = .ok g -> Tr g /\ g.length <= max a.length b.length
 | 0, a, b, g, ha, _, h => by
   have := monicO_tr h ha
   exact ⟨this.1, by rw [this.2]; omega⟩
 | F + 1, a, b, g, ha, hb, h => by
   unfold gcdO at h
   by_cases h0 : b.length = 0
   . rw [if_pos h0] at h
     have := monicO_tr h ha
     exact ⟨this.1, by rw [this.2]; omega⟩
   . rw [if_neg h0] at h
     obtain ⟨d, hd, h⟩ := thenO_inv h
     obtain ⟨r, hr, h⟩ := thenO_inv h
     have l := pdivO_len hd
     have m := monicO_tr hr l.2.1
     have := gcdO_tr F b r g hb m.1 h
     exact ⟨this.1, by have := this.2; have := m.2; have := l.1; omega⟩
theorem derivO_len {a d : List Rat} (h : derivO a = .ok d) : d.length = a.length - 1 := listO_len h
theorem cl_Squarefree (p : Nat) (A : Option Addr) (n c : Nat) (L : List RVal) (a : List Rat) (w : World) (hb : Blk w p 22 #[.slice A n c]) (h : PSl w A n c L) (hv : Vs L a) (hn : n <= 1000) (ta : Tr a)
 (H1 : ∀ d, derivO a = .ok d -> Tr d) (H2 : ∀ d g q, derivO a = .ok d -> gcdO d.length a d = .ok g -> pdivO a g = .ok q -> Tr q.1) :
 Calls Tryz.prog 92 #[.pointer (some ⟨p, 0, none⟩)] w (OutP (sqfO a) w) := by
 have HB0 := hI hb
 have HP := hI h
 have HV := hI hv
 have HT := hI ta
 have HN := hI (show n <= 1000 /\ a.length = n from ⟨hn, by rw [<- hv.len, h.len]⟩)
 have HH := hI (And.intro H1 H2)
 clear hb h hv hn ta H1 H2
 go_enter Tryz.func92, Tryz.ntmps92
 go_upto_region 1 with fail
 refine anyM_start (fun w' => Below w.heap.size w w') [] 9 (by kernel_rfl) (by kernel_rfl) ?_
 have hS : Below w.heap.size w w.drew := (Below.refl _ _).drew
 refine anyM_take (v := ?_) 0 (some 2) rfl (by kernel_rfl) (by kernel_rfl) (fun _ _ _ h => h) (by rfl) ?_ hS ?_; rotate_left
 . (intro w' hSw; have x0 := Blk.cell (Blk.below HB0.out hSw (Blk.lt HB0.out)) 0; simp only [List.getElem?_toArray, List.getElem?_cons_zero] at x0; go_simp; try with_reducible rfl)
 try simp only [Act.put, List.setIfInBounds_toArray, List.set_cons_zero, List.set_cons_succ]
 refine anyM_take (v := ?_) 1 (some 3) rfl (by kernel_rfl) (by kernel_rfl) (fun _ _ _ h => h) (by rfl) ?_ hS ?_; rotate_left
 . (intro w' hSw; have x0 := Blk.cell (Blk.below HB0.out hSw (Blk.lt HB0.out)) 0; simp only [List.getElem?_toArray, List.getElem?_cons_zero] at x0; go_simp; try with_reducible rfl)
 try simp only [Act.put, List.setIfInBounds_toArray, List.set_cons_zero, List.set_cons_succ]
 refine anyM_take (v := ?_) 2 (some 4) rfl (by kernel_rfl) (by kernel_rfl) (fun _ _ _ h => h) (by rfl) ?_ hS ?_; rotate_left
 . (intro w' hSw; have x0 := Blk.cell (Blk.below HB0.out hSw (Blk.lt HB0.out)) 0; simp only [List.getElem?_toArray, List.getElem?_cons_zero] at x0; go_simp; try with_reducible rfl)
 try simp only [Act.put, List.setIfInBounds_toArray, List.set_cons_zero, List.set_cons_succ]
 refine anyM_one 3 (by kernel_rfl) rfl (by rfl) (fun KK hKK => ?_)
 go_simp
 have C := uderiv_any A n c L a w.drew HP.out.drew HV.out (by have := HN.out; omega)
 rcases hz : derivO a with er | d
 . rw [hz] at C
   refine C.mono ?_
   clear C
   rintro e wE ⟨rfl, hb⟩
   have HB := hI (below_chain hS hS.size hb)
   have HE := hI (show sqfO a = .error er from by unfold sqfO; rw [hz]; rfl)
   clear hb hz hS
   go_wp2
   exact ⟨rfl, by rw [HE.out]; exact ⟨rfl, HB.out⟩⟩
 . rw [hz] at C
   refine C.mono ?_
   clear C
   rintro e w1 ⟨A1, n1, c1, L1, rfl, hp, hv1, hf, hb⟩
   have P1 := hI hp
   have V1 := hI (And.intro hv1 hz)
   have N1 := hI (show n1 <= 1000 by have := hv1.len; have := hp.len; have := derivO_len hz; have := HN.out; omega)
   have HS1 := hI (below_chain hS hS.size hb)
   clear hp hv1 hf hb hz hS
   refine hKK.out _ _ (Or.inr HS1.out) ?_
   clear hKK KK 
   try simp only [Act.put, List.setIfInBounds_toArray, List.set_cons_zero, List.set_cons_succ]
   have hS := HS1.out
   refine anyM_one 4 (by kernel_rfl) rfl (by rfl) (fun KK hKK => ?_)
   go_simp
   have C := ugcd_any A n c L a A1 n1 c1 L1 d d.length w1 (HP.out.on hS) HV.out P1.out V1.out.1 (by have := HN.out; omega) (by have := N1.out; omega) HT.out (HH.out.1 d V1.out.2) (Nat.le_refl _)
   rcases hz : gcdO d.length a d with er | g
   . rw [hz] at C
     refine C.mono ?_
     clear C
     rintro e wE ⟨rfl, hb⟩
     have HB := hI (below_chain hS hS.size hb)
     have HE := hI (show sqfO a = .error er from by unfold sqfO; rw [V1.out.2]; show thenO (gcdO d.length a d) _ = _; rw [hz]; rfl)
     clear hb hz hS
     go_wp2
     exact ⟨rfl, by rw [HE.out]; exact ⟨rfl, HB.out⟩⟩
   . rw [hz] at C
     refine C.mono ?_
     clear C
     rintro e w2 ⟨A2, n2, c2, L2, rfl, hp, hv1, hf, hb⟩
     have P2 := hI hp
     have V2 := hI (And.intro hv1 hz)
     have T2 := hI (gcdO_tr _ _ _ _ HT.out (HH.out.1 d V1.out.2) hz)
     have N2 := hI (show n2 <= 1000 by have := hv1.len; have := hp.len; have := T2.out.2; have := derivO_len V1.out.2; have := HN.out; omega)
     have HS2 := hI (below_chain hS hS.size hb)
     clear hp hv1 hf hb hz hS HS1 P1
     refine hKK.out _ _ (Or.inr HS2.out) ?_
     clear hKK KK 
     try simp only [Act.put, List.setIfInBounds_toArray, List.set_cons_zero, List.set_cons_succ]
     have hS := HS2.out
     refine anyM_one 5 (by kernel_rfl) rfl (by rfl) (fun KK hKK => ?_)
     go_simp
     have C := udiv_any A n c L a A2 n2 c2 L2 g w2 (HP.out.on hS) HV.out P2.out V2.out.1 (by have := HN.out; omega) (by have := N2.out; omega) T2.out.1
     rcases hz : pdivO a g with er | q
     . rw [hz] at C
       refine C.mono ?_
       clear C
       rintro e wE ⟨rfl, hb⟩
       have HB := hI (below_chain hS hS.size hb)
       have HE := hI (show sqfO a = .error er from by unfold sqfO; rw [V1.out.2]; show thenO (gcdO d.length a d) _ = _; rw [V2.out.2]; show thenO (pdivO a g) _ = _; rw [hz]; rfl)
       clear hb hz hS
       go_wp2
       exact ⟨rfl, by rw [HE.out]; exact ⟨rfl, HB.out⟩⟩
     . rw [hz] at C
       refine C.mono ?_
       clear C
       rintro e w3 ⟨A3, n3, c3, L3, A4, n4, c4, L4, rfl, hp, hv1, hf, hp4, hv4, hf4, hb⟩
       have P3 := hI hp
       have V3 := hI (And.intro hv1 hz)
       have N3 := hI (show n3 <= 1000 by have := hv1.len; have := hp.len; have := (pdivO_len hz).2.2; have := HN.out; omega)
       have HS3 := hI (below_chain hS hS.size hb)
       clear hp hv1 hf hp4 hv4 hf4 hb hz hS HS2 P2
       refine hKK.out _ _ (Or.inr HS3.out) ?_
       clear hKK KK 
       try simp only [Act.put, List.setIfInBounds_toArray, List.set_cons_zero, List.set_cons_succ]
       have hS := HS3.out
       have hfd := fld_quot A3 n3 c3 A4 n4 c4
       refine anyM_take (v := ?_) 6 (some 8) rfl (by kernel_rfl) (by kernel_rfl) (fun _ _ _ h => h) (by rfl) ?_ hS ?_; rotate_left
       . (intro w' hSw; go_simp; try with_reducible rfl)
       try simp only [Act.put, List.setIfInBounds_toArray, List.set_cons_zero, List.set_cons_succ]
       clear hfd
       refine anyM_one 7 (by kernel_rfl) rfl (by rfl) (fun KK hKK => ?_)
       go_simp
       have C := umonic_any A3 n3 c3 L3 q.1 w3 P3.out V3.out.1 (by have := N3.out; omega) (HH.out.2 d g q V1.out.2 V2.out.2 V3.out.2)
       rcases hz : monicO q.1 with er | m
       . rw [hz] at C
         refine C.mono ?_
         clear C
         rintro e wE ⟨rfl, hb⟩
         have HB := hI (below_chain hS hS.size hb)
         have HE := hI (show sqfO a = .error er from by unfold sqfO; rw [V1.out.2]; show thenO (gcdO d.length a d) _ = _; rw [V2.out.2]; show thenO (pdivO a g) _ = _; rw [V3.out.2]; exact hz)
         clear hb hz hS
         go_wp2
         exact ⟨rfl, by rw [HE.out]; exact ⟨rfl, HB.out⟩⟩
       . rw [hz] at C
         refine C.mono ?_
         clear C
         rintro e w4 ⟨A5, n5, c5, L5, rfl, hp, hv1, hf, hb⟩
         have P5 := hI hp
         have V5 := hI hv1
         have F5 := hI (show ∀ ad, A5 = some ad -> w.heap.size <= ad.block from fun ad e => Nat.le_trans hS.size (hf ad e))
         have HE := hI (show sqfO a = .ok m from by unfold sqfO; rw [V1.out.2]; show thenO (gcdO d.length a d) _ = _; rw [V2.out.2]; show thenO (pdivO a g) _ = _; rw [V3.out.2]; exact hz)
         have HS4 := hI (below_chain hS hS.size hb)
         clear hp hv1 hf hb hz hS HS3 P3
         refine hKK.out _ _ (Or.inr HS4.out) ?_
         clear hKK KK 
         try simp only [Act.put, List.setIfInBounds_toArray, List.set_cons_zero, List.set_cons_succ]
         refine anyM_one 8 (by kernel_rfl) rfl (by rfl) (fun KK hKK => ?_)
         go_simp
         refine hKK.out _ _ (Or.inr HS4.out) ?_
         clear hKK KK 
         try simp only [Act.put, List.setIfInBounds_toArray, List.set_cons_zero, List.set_cons_succ]
         refine anyM_done (by kernel_rfl) ?_ _
         go_wp2
         go_ret
         rw [HE.out]
         exact ⟨A5, n5, c5, L5, rfl, P5.out, V5.out, F5.out, HS4.out⟩
theorem Squarefree_any (A : Option Addr) (n c : Nat) (a : List Rat) (w : World) (h : PV w A n c a) (ta : Tr a) (la : a.length <= 65) (H1 : ∀ d, derivO a = .ok d -> Tr d) (H2 : ∀ d g q, derivO a = .ok d -> gcdO d.length a d = .ok g -> pdivO a g = .ok q -> Tr q.1) :
 Calls Tryz.prog 42 #[.slice A n c] w (AttV (sqfO a) w) := by
 have hmf : ∀ (fn : Fn) (first cap : Array Value) (w : World), (Instr.makeFunc fn first cap).run Tryz.prog w = .ok (.func fn first cap) w := fun _ _ _ _ => rfl
 obtain ⟨L, h, hv⟩ := h
 have HCK := hI (chk_ok h hv ta la)
 have HN := hI (show n <= 1000 /\ n <= 65 from ⟨by rw [<- h.len, hv.len]; omega, by rw [<- h.len, hv.len]; omega⟩)
 have M := hI ((((Mem.nil w).old (x := .pol A n c L) (by simp) h rfl).newCel (t := 22) (noUs1 A n c) _ rfl).newCel (t := 22) (noUs1 A n c) (w.heap.size + 1) (by simp))
 have HV := hI hv
 have HT := hI ta
 have HH := hI (And.intro H1 H2)
 clear h hv ta H1 H2
 go_enter Tryz.func42, Tryz.ntmps42
 go_wp2_with fail
 generalize hW : World.alloc (World.alloc w _) _ = V at *
 clear hW
 have C := attP_any 92 #[.pointer (some ⟨w.heap.size, 0, none⟩)] (w.heap.size + 1) 1 1 _ (sqfO a) V (polys1 (M.out.cel 0 rfl).1 (M.out.pol 2 rfl) (by have := HN.out; omega)) (by decide) (Nat.le_refl _) (fun k hk => HCK.out) (Or.inr (Or.inr (Or.inr (Or.inr (Or.inr (Or.inr rfl)))))) (hI fun W hb => cl_Squarefree w.heap.size A n c L a W ((M.out.on hb).cel 1 rfl).1 ((M.out.on hb).pol 2 rfl) HV.out HN.out.1 HT.out HH.out.1 HH.out.2)
 have HC := hI C
 generalize sqfO a = r at *
 clear C
 rcases r with er | l
 . refine HC.out.mono ?_
   rintro e w1 ⟨rfl, hb⟩
   have HB := hI (M.out.on hb).bel
   clear hb
   go_wp2
   go_ret2
   exact ⟨rfl, HB.out⟩
 . refine HC.out.mono ?_
   rintro e w1 ⟨A3, n3, c3, L3, rfl, hp, hv, hf, hb⟩
   have HP := hI (show PV w1 A3 n3 c3 l from ⟨L3, hp, hv⟩)
   have HB := hI (M.out.on hb).bel
   clear hp hv hf hb
   go_wp2
   go_ret2
   exact ⟨A3, n3, c3, rfl, HP.out, HB.out⟩
end Go.Proofs.YtmncfbfepdbioaaGreatDoor
