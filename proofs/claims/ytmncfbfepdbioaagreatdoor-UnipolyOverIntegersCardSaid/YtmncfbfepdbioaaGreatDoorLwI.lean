/-
 Stage 3: UnipolyOverIntegers.
-/
import Derived.Test.YtmncfbfepdbioaaGreatDoorLwG
import Derived.Test.YtmncfbfepdbioaaGreatDoorRatZi
import Derived.Test.YtmncfbfepdbioaaGreatDoorUniLm
set_option linter.unusedSimpArgs false
set_option linter.unusedVariables false
set_option maxRecDepth 20000
set_option maxHeartbeats 4000000
namespace Go.Proofs.YtmncfbfepdbioaaGreatDoor
open Go.RowKit
theorem mul_z {g g' : Bool} {A A' : Option Addr} {n c n' c' : Nat} {xs ys : List Nat} {w : World} {a b : Int} (h : Sl w w.heap.size A n c xs) (h' : Sl w w.heap.size A' n' c' ys) (hx : ov g xs = some a) (hy : ov g' ys = some b) (hb : (a * b).natAbs < BIG) :
 Calls Tryz.prog 44 #[.agg #[.bool g, .slice A n c], .agg #[.bool g', .slice A' n' c']] w (RetZZ (a * b) w) := by
 have C := mul_ov (neg := g) (neg' := g') h h'
 rw [hx, hy, show o2Z (· * ·) (some a) (some b) = a * b from (fit_yes hb).1, show o2E (· * ·) (some a) (some b) = 0 from (fit_yes hb).2] at C
 exact C.mono fun _ _ k => k.zz hb
structure OiV (p : List Rat) (x : Int) : Prop where
 kp : Kn p 20 51
 hx : x.natAbs <= 1000
 e : evO p (x : Rat) = .ok (ev p (x : Rat))
theorem oi_v {p : List Rat} {x : Int} (kp : Kn p 20 51) (hx : x.natAbs <= 1000) : OiV p x :=
 ⟨kp, hx, (evO_ok kp.b kp.n (⟨x, rfl, hx⟩ : Ib 1000 (x : Rat)) (by decide +kernel)).1⟩
theorem ev_ib {p : List Rat} {x : Int} (h : IbL 51 p) (hx : x.natAbs <= 1000) : ∀ (n : Nat) (q : List Rat), IbL 51 q -> q.length <= n -> Ib (vb 51 1000 n) (ev q (x : Rat))
 | 0, q, _, hl => by
   have e : q = [] := List.eq_nil_of_length_eq_zero (by omega)
   subst e
   exact Ib.zero _
 | n + 1, [], _, _ => Ib.zero _
 | n + 1, a :: q, hq, hl => by
   have h1 := ev_ib h hx n q (fun i => by have := hq (i + 1); rw [coef_succ] at this; exact this) (by simp at hl; omega)
   have h2 := hq 0
   exact ((h1.mul ⟨x, rfl, hx⟩).add h2).mono (by show _ <= vb 51 1000 n + vb 51 1000 n * 1000 + 51; omega)
def sv (p : List Rat) (x : Int) (k : Nat) : Int := (ev (p.drop k) (x : Rat)).num
theorem drop_coef (p : List Rat) (k i : Nat) : coef (p.drop k) i = coef p (k + i) := by
 unfold coef
 rw [List.getD_eq_getElem?_getD, List.getD_eq_getElem?_getD, List.getElem?_drop]
theorem OiV.sv_ib {p : List Rat} {x : Int} (V : OiV p x) (k : Nat) : ev (p.drop k) (x : Rat) = (sv p x k : Rat) /\ (sv p x k).natAbs <= vb 51 1000 20 := by
 have h := ev_ib V.kp.b V.hx 20 (p.drop k) (fun i => by rw [drop_coef]; exact V.kp.b _) (by rw [List.length_drop]; have := V.kp.n; omega)
 obtain ⟨z, e, hz⟩ := h
 unfold sv
 rw [e, Rat.num_intCast]
 exact ⟨rfl, hz⟩
theorem OiV.cn {p : List Rat} {x : Int} (V : OiV p x) (k : Nat) : coef p k = ((coef p k).num : Rat) /\ (coef p k).num.natAbs <= 51 := by
 obtain ⟨z, e, hz⟩ := V.kp.b k
 rw [e, Rat.num_intCast]
 exact ⟨rfl, hz⟩
theorem vb_big : vb 51 1000 20 * 1000 + 51 < BIG := by decide +kernel
theorem OiV.m {p : List Rat} {x : Int} (V : OiV p x) (k : Nat) : (sv p x k * x).natAbs < BIG := by
 have := (V.sv_ib k).2
 have h := Nat.mul_le_mul this V.hx
 rw [Int.natAbs_mul]
 have := vb_big
 omega
theorem OiV.s {p : List Rat} {x : Int} (V : OiV p x) (k : Nat) : (sv p x (k + 1) * x + (coef p k).num).natAbs < BIG := by
 have := (V.sv_ib (k + 1)).2
 have h := Nat.mul_le_mul this V.hx
 have e := Int.natAbs_add_le (sv p x (k + 1) * x) (coef p k).num
 rw [Int.natAbs_mul] at e
 have := (V.cn k).2
 have := vb_big
 omega
theorem OiV.next {p : List Rat} {x : Int} (V : OiV p x) {k : Nat} (hk : k < p.length) : sv p x (k + 1) * x + (coef p k).num = sv p x k := by
 have h1 := (V.sv_ib (k + 1)).1
 have h2 := (V.sv_ib k).1
 have h3 := (V.cn k).1
 rw [List.drop_eq_getElem_cons hk] at h2
 have e : p[k] = coef p k := by unfold coef; rw [List.getD_eq_getElem?_getD, List.getElem?_eq_getElem hk]; rfl
 rw [e] at h2
 have h4 : ev (p.drop (k + 1)) (x : Rat) * (x : Rat) + coef p k = (sv p x k : Rat) := h2
 rw [h1, h3] at h4
 exact Rat.intCast_inj.1 (by rw [Rat.intCast_add, Rat.intCast_mul]; exact h4)
theorem OiV.fin {p : List Rat} {x : Int} (V : OiV p x) : ev p (x : Rat) = (sv p x 0 : Rat) := (V.sv_ib 0).1
theorem OiV.fin' {p : List Rat} {x : Int} (V : OiV p x) : Rat.divInt (sv p x 0) 1 = ev p (x : Rat) := by
 rw [V.fin, Rat.divInt_eq_div]
 have : ((1 : Int) : Rat) = 1 := rfl
 rw [this]
 grind
theorem sv_end {p : List Rat} {x : Int} {n : Nat} (h : p.length <= n) : sv p x n = 0 := by
 unfold sv
 rw [List.drop_eq_nil_of_le h]
 rfl
def OiR (w1 : World) (r : Nat) (s : Int) (wr : World) : Prop := (∃ g A n c xs, Ba wr r g A n c xs /\ ov g xs = some s) /\ Below w1.heap.size w1 wr
theorem unipolyOverIntegers_any (Bp : Option Addr) (mp dp : Nat) (zp : List Int) (zn : Int) (w : World) (ip : ISl w Bp mp dp zp) (hn1 : -9223372036854775808 <= zn) (hn2 : zn <= 9223372036854775807) : Calls Tryz.prog 13 #[.slice Bp mp dp, .int .i64 zn] w (Yes w) := by
 have M0 := hI (Lm.nil w)
 obtain ⟨p, hp⟩ : ∃ p, polyL zp 20 = p := ⟨_, rfl⟩
 obtain ⟨kn, hkn⟩ : ∃ k : Int, pk zn 2001 = k := ⟨_, rfl⟩
 have n1 : 0 <= kn := by rw [<- hkn]; exact pk_lo zn (by decide)
 have n2 : kn < 2001 := by rw [<- hkn]; exact pk_hi zn (by decide)
 obtain ⟨x, hx⟩ : ∃ x : Int, kn - 1000 = x := ⟨_, rfl⟩
 have HX := hI hx
 have HV := hI (oi_v (p := p) (x := x) (hp ▸ kn_poly zp 20) (by omega))
 have HKN := hI hkn
 have HB1 := hI (And.intro hn1 hn2)
 have Ep := hI hp
 have Ip := hI ip
 clear hp ip hkn hn1 hn2 hx
 go_enter Tryz.func13, Tryz.ntmps13
 go_wp2_with fail
 refine (sane_any w).mono ?_
 rintro e w1 ⟨rfl, hb⟩
 have M2 := hI (M0.out.on hb)
 clear M0 hb
 go_wp2_with fail
 have C := poly_any Bp mp dp zp 20 w1 (Ip.out.on M2.out.bel) (by decide)
 rw [Ep.out] at C
 refine C.mono ?_
 clear C
 rintro e w3 ⟨Ap, np, cp, rfl, hp, hb⟩
 have M3 := hI ((M2.out.on hb).add (x := .p Ap np cp p) ⟨hp, HV.out.kp.ok (by decide)⟩)
 clear M2 hp hb
 go_wp2_with fail
 have C := pick_any zn 2001 w3 HB1.out.1 HB1.out.2 (by decide) (by decide)
 rw [HKN.out] at C
 refine C.mono ?_
 clear C
 rintro e w4 ⟨rfl, rfl⟩
 go_wp2_with fail
 refine (of_z 0 w3 (by decide) (by decide)).mono ?_
 rintro e w5 ⟨g0, A0, n0, c0, xs0, rfl, hs, ho, hb⟩
 have M6 := hI (M3.out.on hb)
 clear M3 hb
 have MP := M6
 have HP := hI (MP.out.p 0 rfl).1
 have HL := hI (show p.length = np /\ np <= 20 from ⟨HP.out.len.symm, by rw [HP.out.len]; exact HV.out.kp.n⟩)
 have hn20 : np <= 20 := HL.out.2
 have H0 := hI (show OiR w5 w5.heap.size (sv p x np) (w5.alloc (.cells #[.bool g0, .slice A0 n0 c0] 25)) from ⟨⟨g0, A0, n0, c0, xs0, ⟨Bx.new _ _ _ _ _, hs.on (below_new _ _)⟩, by rw [sv_end (Nat.le_of_eq HL.out.1)]; exact ho⟩, below_new _ _⟩)
 clear hs ho M6
 skip
 go_wp2_with fail
 obtain ⟨r, hr⟩ : ∃ r, w5.heap.size = r := ⟨_, rfl⟩
 have HR0 := hI hr
 rw [hr] at H0
 simp only [hr]
 clear hr
 go_loopw [8] (fun v wr => ∃ (k : Nat) (i : Int), v = .int .i64 i /\ i = (k : Int) - 1 /\ k <= np /\ Hid (OiR w5 r (sv p x k) wr)) (fun v _ => ((intOf v) + 1).toNat)
 case atStart => exact ⟨np, _, rfl, rfl, Nat.le_refl _, H0⟩
 case round =>
  obtain ⟨k, i, rfl, hi, hk, HR⟩ := hrel
  clear H0
  obtain ⟨⟨gs, As, ns, cs, xss, hba, hos⟩, hbl⟩ := HR.out
  have ZS := hI hba
  have VS := hI hos
  have BL := hI hbl
  clear hba hos hbl HR
  rcases k with _ | k
  . have hi2 : i = -1 := by omega
    subst hi2
    clear hi
    go_wp2_with fail
    refine (lnumber_any (kn - 1000) wr (by omega) (by omega)).mono ?_
    rintro e w7 ⟨qk, rfl, hq, hv, hb⟩
    rw [HX.out] at hv
    have HK := hI (And.intro hq hv)
    have ZS1 := hI (ZS.out.on hb)
    have BL1 := hI (below_chain BL.out BL.out.size hb)
    clear hq hv hb ZS BL
    go_wp2_with fail
    have C := Eval_any _ _ _ _ qk _ w7 (HP.out.on BL1.out) HK.out.1 HK.out.2 (HV.out.kp.ok (by decide)).1 (HV.out.kp.ok (by decide)).2
    rw [HV.out.e] at C
    refine C.mono ?_
    clear C
    rintro e w8 ⟨qv, rfl, hq, hv, hb⟩
    have HE := hI (And.intro hq hv)
    have ZS2 := hI (ZS1.out.on hb)
    have BL2 := hI (below_chain BL1.out BL1.out.size hb)
    clear hq hv hb ZS1 BL1 HK
    go_upto_region 15 with fail
    generalize hW : World.alloc w8 _ = V
    have hn := below_new w8 (.cells #[.bool qv.g, .slice qv.A qv.n qv.c, .bool qv.gd, .slice qv.Ad qv.nd qv.cd] 27)
    have hx0 := Rb.new HE.out.1
    rw [hW] at hn hx0
    have XE := hI hx0
    have VE := hI HE.out.2
    have ZS := hI (ZS2.out.on hn)
    have BL := hI (below_chain BL2.out BL2.out.size hn)
    clear hn hx0 hW ZS2 BL2 HE
    generalize w8.heap.size = b3 at *
    go_cut [15, 16] (fun pz sz wx => RMid V.heap.size V.drew (Rat.divInt (sv p x 0) 1) pz sz wx)
    case first =>
     refine anyM_start (fun w' => Below V.heap.size V.drew w') [7] 9 (by kernel_rfl) (by kernel_rfl) ?_
     have hS : Below V.heap.size V.drew V.drew := Below.refl _ _
     refine anyM_take (v := ?_) 0 (some 64) rfl (by kernel_rfl) (by kernel_rfl) (fun _ _ _ h => h) (by rfl) ?_ hS ?_; rotate_left
     . (intro w' hSw; have zz := ZS.out.drewZ.on hSw; have x0 := zz.bx.c0; have x1 := zz.bx.c1; go_simp; try with_reducible rfl)
     try simp only [Act.put, List.setIfInBounds_toArray, List.set_cons_zero, List.set_cons_succ]
     refine anyM_br2 1 6 (by kernel_rfl) rfl rfl (by rfl) (by rfl) (fun KK hKK => ?_) (fun KK hKK => ?_)
     . go_simp
       refine (of_z 1 V.drew (by decide) (by decide)).mono ?_
       rintro e w61 ⟨gO, AO, nO, cO, xsO, rfl, hsO, hoO, hb⟩
       have HO := hI hsO
       have VO := hI hoO
       have HS1 := hI (below_chain hS hS.size hb)
       clear hsO hoO hb hS
       refine hKK.out _ _ (Or.inr HS1.out) ?_
       clear hKK KK 
       try simp only [Act.put, List.setIfInBounds_toArray, List.set_cons_zero, List.set_cons_succ]
       have hS := HS1.out
       clear HS1
       refine anyM_br2 2 6 (by kernel_rfl) rfl rfl (by rfl) (by rfl) (fun KK hKK => ?_) (fun KK hKK => ?_)
       . go_simp
         have hz := ZS.out.drewZ.on hS
         refine (make_z (g := gs) (g' := gO) hz.sl HO.out VS.out VO.out (by decide)).mono ?_
         rintro e w62 ⟨q9, rfl, hq9, ho9, hb⟩
         have H9 := hI hq9
         have V9 := hI ho9
         have HS1 := hI (below_chain hS hS.size hb)
         clear hz hq9 ho9 hb hS HO VO
         refine hKK.out _ _ (Or.inr HS1.out) ?_
         clear hKK KK 
         try simp only [Act.put, List.setIfInBounds_toArray, List.set_cons_zero, List.set_cons_succ]
         have hS := HS1.out
         clear HS1
         refine anyM_take (v := ?_) 3 (some 63) rfl (by kernel_rfl) (by kernel_rfl) (fun _ _ _ h => h) (by rfl) ?_ hS ?_; rotate_left
         . (intro w' hSw; go_simp; try with_reducible rfl)
         try simp only [Act.put, List.setIfInBounds_toArray, List.set_cons_zero, List.set_cons_succ]
         refine anyM_take (v := ?_) 4 (some 67) rfl (by kernel_rfl) (by kernel_rfl) (fun _ _ _ h => h) (by rfl) ?_ hS ?_; rotate_left
         . (intro w' hSw; go_simp; try with_reducible rfl)
         try simp only [Act.put, List.setIfInBounds_toArray, List.set_cons_zero, List.set_cons_succ]
         refine anyM_takeP (v := ?_) 5 (some 68) rfl (by kernel_rfl) (by kernel_rfl) (fun _ _ _ h => h) (by rfl) ?_ (Or.inr hS) ?_; rotate_left
         . (intro w'; go_simp; try with_reducible rfl)
         try simp only [Act.put, List.setIfInBounds_toArray, List.set_cons_zero, List.set_cons_succ]
         refine anyM_one 6 (by kernel_rfl) rfl (by rfl) (fun KK hKK => ?_)
         go_simp
         have hn := below_new w62 (.cells #[.bool false, .slice none 0 0, .bool false, .slice none 0 0] 27)
         have HLE := hI (show V.heap.size <= w62.heap.size from hS.size)
         have HSG := hI (below_chain hS hS.size hn)
         have BN := hI (Rb.new (q := RVal.nil) (RVal.nil_in w62))
         have HSo := hI hS
         have H9o := H9
         replace H9 := hI (H9.out.on hn)
         clear hn hS
         refine hKK.out _ _ (Or.inr HSG.out) ?_
         clear hKK KK 
         try simp only [Act.put, List.setIfInBounds_toArray, List.set_cons_zero, List.set_cons_succ]
         have hS := HSG.out
         clear HSG
         obtain ⟨c0, c1, c2, c3⟩ := BN.out.cs
         simp only [RVal.nil] at c0 c1 c2 c3
         obtain ⟨f0, f1, f2, f3⟩ := BN.out.fs
         refine anyM_one 7 (by kernel_rfl) rfl (by rfl) (fun KK hKK => ?_)
         go_simp
         refine hKK.out _ _ (Or.inl (by kernel_rfl)) ?_
         clear hKK KK c0 c1 c2 c3 f0 f1 f2 f3
         try simp only [Act.put, List.setIfInBounds_toArray, List.set_cons_zero, List.set_cons_succ]
         refine anyM_one 8 (by kernel_rfl) rfl (by rfl) (fun KK hKK => ?_)
         go_simp
         refine hKK.out _ _ (Or.inl (by kernel_rfl)) ?_
         clear hKK KK 
         try simp only [Act.put, List.setIfInBounds_toArray, List.set_cons_zero, List.set_cons_succ]
         refine anyM_done (by kernel_rfl) ?_ _
         go_wp2_with fail
         go_meet
         exact rMid_new HSo.out HLE.out H9o.out V9.out
       . go_simp
         have hn := below_new w61 (.cells #[.bool false, .slice none 0 0, .bool false, .slice none 0 0] 27)
         have HLE := hI (show V.heap.size <= w61.heap.size from hS.size)
         have HSG := hI (below_chain hS hS.size hn)
         have BN := hI (Rb.new (q := RVal.nil) (RVal.nil_in w61))
         replace HO := hI (HO.out.on hn)
         clear hn hS
         refine hKK.out _ _ (Or.inr HSG.out) ?_
         clear hKK KK 
         try simp only [Act.put, List.setIfInBounds_toArray, List.set_cons_zero, List.set_cons_succ]
         have hS := HSG.out
         clear HSG
         refine anyM_one 2 (by kernel_rfl) rfl (by rfl) (fun KK hKK => ?_)
         go_simp
         have hz := ZS.out.drewZ.on hS
         refine (make_z (g := gs) (g' := gO) hz.sl HO.out VS.out VO.out (by decide)).mono ?_
         rintro e w62 ⟨q9, rfl, hq9, ho9, hb⟩
         have H9 := hI hq9
         have V9 := hI ho9
         have HS1 := hI (below_chain hS hS.size hb)
         replace BN := hI (BN.out.on hb)
         clear hz hq9 ho9 hb hS HO VO
         refine hKK.out _ _ (Or.inr HS1.out) ?_
         clear hKK KK 
         try simp only [Act.put, List.setIfInBounds_toArray, List.set_cons_zero, List.set_cons_succ]
         have hS := HS1.out
         clear HS1
         refine anyM_take (v := ?_) 3 (some 63) rfl (by kernel_rfl) (by kernel_rfl) (fun _ _ _ h => h) (by rfl) ?_ hS ?_; rotate_left
         . (intro w' hSw; go_simp; try with_reducible rfl)
         try simp only [Act.put, List.setIfInBounds_toArray, List.set_cons_zero, List.set_cons_succ]
         refine anyM_take (v := ?_) 4 (some 67) rfl (by kernel_rfl) (by kernel_rfl) (fun _ _ _ h => h) (by rfl) ?_ hS ?_; rotate_left
         . (intro w' hSw; go_simp; try with_reducible rfl)
         try simp only [Act.put, List.setIfInBounds_toArray, List.set_cons_zero, List.set_cons_succ]
         refine anyM_takeP (v := ?_) 5 (some 68) rfl (by kernel_rfl) (by kernel_rfl) (fun _ _ _ h => h) (by rfl) ?_ (Or.inr hS) ?_; rotate_left
         . (intro w'; go_simp; try with_reducible rfl)
         try simp only [Act.put, List.setIfInBounds_toArray, List.set_cons_zero, List.set_cons_succ]
         obtain ⟨c0, c1, c2, c3⟩ := BN.out.cs
         simp only [RVal.nil] at c0 c1 c2 c3
         obtain ⟨f0, f1, f2, f3⟩ := BN.out.fs
         refine anyM_one 7 (by kernel_rfl) rfl (by rfl) (fun KK hKK => ?_)
         go_simp
         refine hKK.out _ _ (Or.inl (by kernel_rfl)) ?_
         clear hKK KK c0 c1 c2 c3 f0 f1 f2 f3
         try simp only [Act.put, List.setIfInBounds_toArray, List.set_cons_zero, List.set_cons_succ]
         refine anyM_one 8 (by kernel_rfl) rfl (by rfl) (fun KK hKK => ?_)
         go_simp
         refine hKK.out _ _ (Or.inl (by kernel_rfl)) ?_
         clear hKK KK 
         try simp only [Act.put, List.setIfInBounds_toArray, List.set_cons_zero, List.set_cons_succ]
         refine anyM_done (by kernel_rfl) ?_ _
         go_wp2_with fail
         go_meet
         exact rMid_old BN.out hS HLE.out H9.out V9.out
     . go_simp
       have hn := below_new V.drew (.cells #[.bool false, .slice none 0 0, .bool false, .slice none 0 0] 27)
       have HLE := hI (show V.heap.size <= V.drew.heap.size from hS.size)
       have HSG := hI (below_chain hS hS.size hn)
       have BN := hI (show Rb (V.drew.alloc (.cells #[.bool false, .slice none 0 0, .bool false, .slice none 0 0] 27)) V.heap.size RVal.nil from Rb.new (q := RVal.nil) (RVal.nil_in V.drew))
       clear hn hS
       refine hKK.out _ _ (Or.inr HSG.out) ?_
       clear hKK KK 
       try simp only [Act.put, List.setIfInBounds_toArray, List.set_cons_zero, List.set_cons_succ]
       have hS := HSG.out
       clear HSG
       refine anyM_one 1 (by kernel_rfl) rfl (by rfl) (fun KK hKK => ?_)
       go_simp
       refine (of_z 1 (V.drew.alloc (.cells #[.bool false, .slice none 0 0, .bool false, .slice none 0 0] 27)) (by decide) (by decide)).mono ?_
       rintro e w61 ⟨gO, AO, nO, cO, xsO, rfl, hsO, hoO, hb⟩
       have HO := hI hsO
       have VO := hI hoO
       have HS1 := hI (below_chain hS hS.size hb)
       replace BN := hI (BN.out.on hb)
       clear hsO hoO hb hS
       refine hKK.out _ _ (Or.inr HS1.out) ?_
       clear hKK KK 
       try simp only [Act.put, List.setIfInBounds_toArray, List.set_cons_zero, List.set_cons_succ]
       have hS := HS1.out
       clear HS1
       refine anyM_one 2 (by kernel_rfl) rfl (by rfl) (fun KK hKK => ?_)
       go_simp
       have hz := ZS.out.drewZ.on hS
       refine (make_z (g := gs) (g' := gO) hz.sl HO.out VS.out VO.out (by decide)).mono ?_
       rintro e w62 ⟨q9, rfl, hq9, ho9, hb⟩
       have H9 := hI hq9
       have V9 := hI ho9
       have HS1 := hI (below_chain hS hS.size hb)
       replace BN := hI (BN.out.on hb)
       clear hz hq9 ho9 hb hS HO VO
       refine hKK.out _ _ (Or.inr HS1.out) ?_
       clear hKK KK 
       try simp only [Act.put, List.setIfInBounds_toArray, List.set_cons_zero, List.set_cons_succ]
       have hS := HS1.out
       clear HS1
       refine anyM_take (v := ?_) 3 (some 63) rfl (by kernel_rfl) (by kernel_rfl) (fun _ _ _ h => h) (by rfl) ?_ hS ?_; rotate_left
       . (intro w' hSw; go_simp; try with_reducible rfl)
       try simp only [Act.put, List.setIfInBounds_toArray, List.set_cons_zero, List.set_cons_succ]
       refine anyM_take (v := ?_) 4 (some 67) rfl (by kernel_rfl) (by kernel_rfl) (fun _ _ _ h => h) (by rfl) ?_ hS ?_; rotate_left
       . (intro w' hSw; go_simp; try with_reducible rfl)
       try simp only [Act.put, List.setIfInBounds_toArray, List.set_cons_zero, List.set_cons_succ]
       refine anyM_takeP (v := ?_) 5 (some 68) rfl (by kernel_rfl) (by kernel_rfl) (fun _ _ _ h => h) (by rfl) ?_ (Or.inr hS) ?_; rotate_left
       . (intro w'; go_simp; try with_reducible rfl)
       try simp only [Act.put, List.setIfInBounds_toArray, List.set_cons_zero, List.set_cons_succ]
       obtain ⟨c0, c1, c2, c3⟩ := BN.out.cs
       simp only [RVal.nil] at c0 c1 c2 c3
       obtain ⟨f0, f1, f2, f3⟩ := BN.out.fs
       refine anyM_one 7 (by kernel_rfl) rfl (by rfl) (fun KK hKK => ?_)
       go_simp
       refine hKK.out _ _ (Or.inl (by kernel_rfl)) ?_
       clear hKK KK c0 c1 c2 c3 f0 f1 f2 f3
       try simp only [Act.put, List.setIfInBounds_toArray, List.set_cons_zero, List.set_cons_succ]
       refine anyM_one 8 (by kernel_rfl) rfl (by rfl) (fun KK hKK => ?_)
       go_simp
       refine hKK.out _ _ (Or.inl (by kernel_rfl)) ?_
       clear hKK KK 
       try simp only [Act.put, List.setIfInBounds_toArray, List.set_cons_zero, List.set_cons_succ]
       refine anyM_done (by kernel_rfl) ?_ _
       go_wp2_with fail
       go_meet
       exact rMid_old BN.out hS HLE.out H9.out V9.out
    case rest =>
    obtain ⟨b5, qw, rfl, rfl, hx5, ho5, hb⟩ := hcut
    have XW := hI hx5
    rw [HV.out.fin'] at ho5
    have VW := hI (show qw.v = some (ev p (x : Rat)) from ho5)
    have XE1 := hI (XE.out.drew.on hb)
    have BL1 := hI (below_chain BL.out.drew (by have := BL.out.size; exact this) hb)
    clear hx5 ho5 hb XE BL ZS
    obtain ⟨U, hU⟩ : ∃ U : World, U = wc := ⟨_, rfl⟩
    subst hU
    obtain ⟨c0, c1, c2, c3⟩ := XE1.out.cs
    obtain ⟨d0, d1, d2, d3⟩ := XW.out.cs
    go_wp2_with fail
    clear c0 c1 c2 c3 d0 d1 d2 d3
    refine (sameRat_yes qv qw (ev p (x : Rat)) U XE1.out.sl XW.out.sl VE.out VW.out).mono ?_
    rintro e w9 ⟨rfl, hb⟩
    have HB := hI (below_chain BL1.out BL1.out.size hb)
    have BM := hI MP.out.bel
    clear hb
    go_wp2
    go_ret
    exact ⟨rfl, below_chain BM.out BM.out.size HB.out⟩
  . have hi2 : i = (k : Int) := by omega
    subst hi2
    clear hi
    have hkn : k < np := by omega
    obtain ⟨W, hW⟩ : ∃ W : World, W = wr := ⟨_, rfl⟩
    subst hW
    go_upto_region 9 with fail
    go_cut [9, 10] (fun pz sz wx => IMid W.heap.size W.drew (sv p x (k + 1) * (kn - 1000)) pz sz wx)
    case first =>
     have x0 := ZS.out.drewZ
     have B : Below W.heap.size W.drew W.drew := Below.refl _ _
     have o0 := ZS.out.bx.c0
     have o1 := ZS.out.bx.c1
     have nx := Nat.ne_of_lt ZS.out.bx.lt
     have m0 := World.new_ne _ _ o0
     have p0 := x0.bx.c0
     have p1 := x0.bx.c1
     have q0 := World.new_ne _ _ p0
     have q1 := World.new_ne _ _ p1
     have G0 := hI nx
     clear nx
     go_region_held3 (fun w' => w'.cell? ⟨r, 0, none⟩ = some (.bool gs) /\ w'.cell? ⟨r, 1, none⟩ = some (.slice As ns cs))
      (first | exact ⟨p0, p1⟩ | go_keep)
      (first
       | (go_at_call 28
          refine (of_z (kn - 1000) _ (by omega) (by omega)).mono ?_
          rintro e v1 ⟨gO, AO, nO, cO, xsO, rfl, hsO, hoO, hbn⟩
          have FO := hI hoO
          clear hoO
          first
          | (have hb1 : Below W.drew.heap.size W.drew v1 := by with_reducible exact hbn
             have x1 := x0.on hb1
             have D1 := below_chain B (Nat.le_refl _) hb1
             clear hb1)
          | (have hb1 : Below (W.alloc (.cells #[.bool false, .slice none 0 0] 25)).drew.heap.size (W.alloc (.cells #[.bool false, .slice none 0 0] 25)).drew v1 := by with_reducible exact hbn
             have hbm : Below (W.drew.alloc (.cells #[.bool false, .slice none 0 0] 25)).heap.size (W.drew.alloc (.cells #[.bool false, .slice none 0 0] 25)) v1 := ⟨hb1.os, hb1.tape, hb1.output, hb1.size, hb1.block⟩
             have bn : Bx v1 W.heap.size false none 0 0 := (Bx.new W.drew false none 0 0).below hbm (by simp)
             have x1 := (ZS.out.on (below_new W (.cells #[.bool false, .slice none 0 0] 25))).drewZ.on hb1
             have D1 := below_chain (below_chain B (Nat.le_refl _) (below_new W.drew (.cells #[.bool false, .slice none 0 0] 25))) (by simp) hbm
             clear hb1 hbm)
          have nx1 := Nat.ne_of_lt x1.bx.lt
          have ge1 : W.heap.size <= v1.heap.size := D1.size
          have G1 := hI (And.intro nx1 ge1)
          clear hbn p0 p1 q0 q1 o0 o1 m0 B nx1 ge1
          have p0 := x1.bx.c0
          have p1 := x1.bx.c1
          have q0 := World.new_ne _ _ p0
          have q1 := World.new_ne _ _ p1)
       | (go_at_call 44
          first
          | (have C := mul_z (g := gs) (g' := gO) x1.sl hsO VS.out FO.out (by rw [HX.out]; exact HV.out.m (k + 1))
             (with_reducible refine C.mono ?_)
             clear C
             rintro e v2 ⟨g9, A9, n9, c9, xs9, rfl, hs9, ho9, hbn⟩
             have x2 := x1.on hbn
             have D2 := below_chain D1 G1.out.2 hbn
             have nq := G0.out.symm
             try replace bn := bn.below hbn bn.lt)
          | (have be := below_new v1 (.cells #[.bool false, .slice none 0 0] 25)
             have bn := Bx.new v1 false none 0 0
             have C := mul_z (g := gs) (g' := gO) (x1.on be).sl (hsO.on be) VS.out FO.out (by rw [HX.out]; exact HV.out.m (k + 1))
             (with_reducible refine C.mono ?_)
             clear C
             rintro e v2 ⟨g9, A9, n9, c9, xs9, rfl, hs9, ho9, hbn⟩
             have x2 := (x1.on be).on hbn
             have D2 := below_chain (below_chain D1 G1.out.2 be) (Nat.le_trans G1.out.2 be.size) hbn
             have nq := G1.out.1.symm
             replace bn := bn.below hbn bn.lt
             clear be)
          have F9 := hI ho9
          clear p0 p1 q0 q1 hbn ho9
          have nx2 := Nat.ne_of_lt x2.bx.lt
          have ge2 : W.heap.size <= v2.heap.size := D2.size
          have G2 := hI (And.intro nx2 ge2)
          clear nx2 ge2
          have p0 := x2.bx.c0
          have p1 := x2.bx.c1
          have q0 := World.new_ne _ _ p0
          have q1 := World.new_ne _ _ p1
          try
           have t0 := bn.c0
           have t1 := bn.c1
           have u0f := bn.f 0
           have u1f := bn.f 1
           have bb := hI bn
           clear bn))
     all_goals (go_wp2_with fail; go_meet; first
      | exact iMid_new D2 G2.out.2 hs9 F9.out
      | exact iMid_old bb.out D2 (Nat.le_refl _) hs9 F9.out
      | exact iMid_old bb.out D2 G1.out.2 hs9 F9.out)
    case rest =>
    obtain ⟨b1, g1, A1, m1, c1, xs1, rfl, rfl, hx1, ho1, hb⟩ := hcut
    have ZM := hI hx1
    have VM := hI ho1
    have ZS2 := hI (ZS.out.drewZ.on hb)
    have BL2 := hI (below_chain BL.out.drew (by have := BL.out.size; exact this) hb)
    clear hx1 ho1 hb ZS BL
    obtain ⟨V, hV⟩ : ∃ V : World, V = wc := ⟨_, rfl⟩
    subst hV
    go_upto_region 10 with fail
    obtain ⟨L, hPL, hVL⟩ := HP.out
    obtain ⟨ad, q, pp, hA, hq, hpp⟩ := hPL.el (k := k) hkn
    subst hA
    have HPL := hI (hPL.on BL2.out)
    have HPB := hI (show pp.block < V.heap.size by obtain ⟨ad', e, hbk, _⟩ := HPL.out.reads.2 (by omega); injection e with e; subst e; rw [<- hpp, block_of_add]; exact hbk)
    have HQ := hI hq
    have HQO := hI (show ov q.g q.xs = some (coef p k).num from (rv_some (show rv q.o q.od = some (coef p k) from hVL.at_ hq)).1)
    clear hPL hVL hq
    go_cut [11, 12] (fun pz sz wx => IMid V.heap.size V.drew (sv p x (k + 1) * (kn - 1000) + (coef p k).num) pz sz wx)
    case first =>
     have x0 := ZM.out.drewZ
     have y0 := HPL.out.drew
     have B : Below V.heap.size V.drew V.drew := Below.refl _ _
     have nx := Nat.ne_of_lt ZM.out.bx.lt
     have o0 := ZM.out.bx.c0
     have o1 := ZM.out.bx.c1
     have m0 := World.new_ne _ _ o0
     obtain ⟨z0, z1, z2, z3⟩ := HPL.out.c4 rfl HQ.out hpp
     have mz := World.new_ne _ _ z0
     have p0 := x0.bx.c0
     have p1 := x0.bx.c1
     have q0 := World.new_ne _ _ p0
     obtain ⟨e0, e1, e2, e3⟩ := y0.c4 rfl HQ.out hpp
     have s0 := World.new_ne _ _ e0
     have G0 := hI nx
     clear nx z2 z3 e2 e3
     go_region_held3 (fun w' => w'.cell? ⟨b1, 0, none⟩ = some (.bool g1) /\ w'.cell? ⟨b1, 1, none⟩ = some (.slice A1 m1 c1) /\ w'.cell? pp = some (.bool q.g) /\ w'.cell? ⟨pp.block, pp.off + 1, none⟩ = some (.slice q.A q.n q.c))
      (first | exact ⟨p0, p1, e0, e1⟩ | go_keep)
      (first
       | (go_at_call 45
          first
          | (have C := add_z (g := g1) (g' := q.g) x0.sl (y0.ins q (List.mem_of_getElem? HQ.out)).1 VM.out HQO.out (by rw [HX.out]; exact HV.out.s k)
             (with_reducible refine C.mono ?_)
             clear C
             rintro e v2 ⟨g9, A9, n9, c9, xs9, rfl, hs9, ho9, hbn⟩
             have x2 := x0.on hbn
             have y2 := y0.on hbn
             have D2 := below_chain B (Nat.le_refl _) hbn)
          | (have nq := G0.out.symm
             have nr : pp.block ≠ V.heap.size := Nat.ne_of_lt HPB.out
             have ns := nr.symm
             have be := below_new V (.cells #[.bool false, .slice none 0 0] 25)
             have xb := (ZM.out.on be).drewZ
             have yb := (HPL.out.on be).drew
             have C := add_z (g := g1) (g' := q.g) xb.sl (yb.ins q (List.mem_of_getElem? HQ.out)).1 VM.out HQO.out (by rw [HX.out]; exact HV.out.s k)
             (with_reducible refine C.mono ?_)
             clear C
             rintro e v2 ⟨g9, A9, n9, c9, xs9, rfl, hs9, ho9, hbn⟩
             have x2 := xb.on hbn
             have y2 := yb.on hbn
             have hbm : Below (V.drew.alloc (.cells #[.bool false, .slice none 0 0] 25)).heap.size (V.drew.alloc (.cells #[.bool false, .slice none 0 0] 25)) v2 := ⟨hbn.os, hbn.tape, hbn.output, hbn.size, hbn.block⟩
             have bn : Bx v2 V.heap.size false none 0 0 := (Bx.new V.drew false none 0 0).below hbm (by simp)
             have D2 := below_chain (below_chain B (Nat.le_refl _) (below_new V.drew (.cells #[.bool false, .slice none 0 0] 25))) (by simp) hbm
             clear be xb yb hbm)
          have F9 := hI ho9
          clear p0 p1 q0 e0 e1 s0 o0 o1 m0 z0 z1 mz hbn ho9 B
          have nx2 := Nat.ne_of_lt x2.bx.lt
          have ge2 : V.heap.size <= v2.heap.size := D2.size
          have G2 := hI (And.intro nx2 ge2)
          clear nx2 ge2
          have p0 := x2.bx.c0
          have p1 := x2.bx.c1
          have q0 := World.new_ne _ _ p0
          obtain ⟨e0, e1, e2, e3⟩ := y2.c4 rfl HQ.out hpp
          have s0 := World.new_ne _ _ e0
          clear e2 e3
          try
           have t0 := bn.c0
           have t1 := bn.c1
           have u0f := bn.f 0
           have u1f := bn.f 1
           have bb := hI bn
           clear bn))
     all_goals (go_wp2_with fail; go_meet; first
      | exact iMid_new D2 G2.out.2 hs9 F9.out
      | exact iMid_old bb.out D2 (Nat.le_refl _) hs9 F9.out)
    case rest =>
    obtain ⟨b2, g2, A2, m2, c2, xs2, rfl, rfl, hx2, ho2, hb⟩ := hcut
    have ZN := hI hx2
    have VN := hI (show ov g2 xs2 = some (sv p x k) by rw [ho2, HX.out, HV.out.next (show k < p.length by rw [HL.out.1]; exact hkn)])
    have ZS3 := hI (ZS2.out.drewZ.on hb)
    have BL3 := hI (below_chain BL2.out.drew (by have := BL2.out.size; exact this) hb)
    clear hx2 ho2 hb ZS2 BL2 ZM VM HPL HPB HQ HQO hpp
    obtain ⟨U, hU⟩ : ∃ U : World, U = wc := ⟨_, rfl⟩
    subst hU
    obtain ⟨c0, c1⟩ := ZN.out.bx.cs
    obtain ⟨d0, d1⟩ := ZS3.out.bx.cs
    have f0 := ZS3.out.bx.f 0
    have f1 := ZS3.out.bx.f 1
    go_wp2_with fail
    clear c0 c1 d0 d1 f0 f1
    generalize hT : World.setCell (World.setCell U _ _) _ _ = T
    have HR2 := hI (show OiR w5 r (sv p x k) T from ⟨⟨_, _, _, _, _, by rw [<- hT]; exact ZS3.out.stored ZN.out.sl _, VN.out⟩, by rw [<- hT]; exact below_ret BL3.out (Nat.le_of_eq HR0.out) _ _⟩)
    clear hT ZN ZS3 BL3 VN
    go_roundw
    case rel => exact ⟨k, (k : Int) - 1, by go_num, rfl, by omega, HR2⟩
    case measure => simp [intOf] <;> omega
end Go.Proofs.YtmncfbfepdbioaaGreatDoor
