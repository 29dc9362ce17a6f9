/-
  Stage 3: UnipolySquarefree.
-/
import Derived.Test.YtmncfbfepdbioaaGreatDoorBehindQ
import Derived.Test.YtmncfbfepdbioaaGreatDoorLwR
import Derived.Test.YtmncfbfepdbioaaGreatDoorUniSq
import Derived.Test.YtmncfbfepdbioaaGreatDoorUniMf
namespace Go.Proofs.YtmncfbfepdbioaaGreatDoor
open Go.RowKit
theorem lin_eq' (n : Int) : lin' n = lin (n : Rat) := by unfold lin' lin; rw [Rat.intCast_neg]; rfl
/-- A list of bytes in memory. -/
def BSl (w : World) (A : Option Addr) (n c : Nat) (zs : List Int) : Prop := zs.length = n ∧ n ≤ c ∧ c ≤ 9223372036854775807 ∧ (∀ k, k < n → ∃ ad : Addr, A = some ad ∧ ad.block < w.heap.size ∧ w.cell? (ad.add k) = some (.int .u8 (zs.getD k 0))) ∧ ∀ z ∈ zs, 0 ≤ z ∧ z ≤ 255
theorem BSl.el {w w' : World} {A : Option Addr} {n c : Nat} {zs : List Int} (h : BSl w A n c zs) (hb : Below w.heap.size w w') {k : Nat} (hk : k < n) : ∃ (ad : Addr) (z : Int), A = some ad ∧ w'.cell? (ad.add k) = some (.int .u8 z) ∧ 0 ≤ z ∧ z ≤ 255 := by
  obtain ⟨ad, e, hl, x0⟩ := h.2.2.2.1 k hk
  have m : zs.getD k 0 ∈ zs := by rw [List.getD_eq_getElem?_getD, List.getElem?_eq_getElem (by rw [h.1]; exact hk)]; exact List.getElem_mem _
  exact ⟨ad, _, e, by rw [hb.cell (by rw [block_of_add]; exact hl)]; exact x0, h.2.2.2.2 _ m⟩
theorem isl_el' {w : World} {A : Option Addr} {n c : Nat} {zs : List Int} (h : ISl w A n c zs) {k : Nat} (hk : k < n) : ∃ (ad : Addr) (z : Int), A = some ad ∧ w.cell? (ad.add k) = some (.int .i64 z) ∧ -9223372036854775808 ≤ z ∧ z ≤ 9223372036854775807 := by
  obtain ⟨ad, e, _, x0⟩ := h.2.2.2.1 k hk
  have m : zs.getD k 0 ∈ zs := by rw [List.getD_eq_getElem?_getD, List.getElem?_eq_getElem (by rw [h.1]; exact hk)]; exact List.getElem_mem _
  exact ⟨ad, _, e, x0, h.2.2.2.2 _ m⟩
/-- The roots seen so far, as the array holds them. -/
def Seen (cs : Array Value) (ds : List Rat) : Prop := cs.size = 19 ∧ NoU cs ∧ ∀ i : Nat, i < 19 → ∃ b : Bool, cs[i]? = some (.bool b) ∧ (b = true ↔ (((i : Int) - 9 : Int) : Rat) ∈ ds)
theorem Seen.set {cs : Array Value} {ds : List Rat} (h : Seen cs ds) {i : Nat} (hi : i < 19) {ds' : List Rat} (hd : ∀ x, x ∈ ds' ↔ x = (((i : Int) - 9 : Int) : Rat) ∨ x ∈ ds) : Seen (cs.setIfInBounds i (.bool true)) ds' := by
  obtain ⟨h1, h2, h3⟩ := h
  refine ⟨by rw [Array.size_setIfInBounds]; exact h1, h2.set (fun x e => by cases e) i, fun j hj => ?_⟩
  rw [Array.getElem?_setIfInBounds]
  by_cases e : i = j
  · subst e
    exact ⟨true, by rw [if_pos rfl, if_pos (by omega)], ⟨fun _ => (hd _).2 (Or.inl rfl), fun _ => rfl⟩⟩
  · rw [if_neg e]
    obtain ⟨b, hb, hm⟩ := h3 j hj
    refine ⟨b, hb, hm.trans ?_⟩
    rw [hd]
    constructor
    · exact Or.inr
    · rintro (k | k)
      · have := Rat.intCast_inj.1 k
        omega
      · exact k
/-- A root more, if it is new. -/
def dn (r : Rat) (ds : List Rat) : List Rat := if r ∈ ds then ds else r :: ds
theorem dn_mem (r : Rat) (ds : List Rat) (x : Rat) : x ∈ dn r ds ↔ x = r ∨ x ∈ ds := by
  unfold dn
  split
  · rename_i h
    exact ⟨Or.inr, fun k => k.elim (fun e => by rw [e]; exact h) id⟩
  · exact List.mem_cons
theorem dn_len (r : Rat) (ds : List Rat) : (dn r ds).length ≤ ds.length + 1 := by
  unfold dn
  split
  · omega
  · rw [List.length_cons]; exact Nat.le_refl _
theorem SB.first {P ds : List Rat} {m : Nat} {r : Int} (h : SB P ds m) (hr : r.natAbs ≤ 9) : SB (pmul P (lin (r : Rat))) (dn (r : Rat) ds) (m + 1) := by
  unfold dn
  split
  · rename_i k; exact h.again hr k
  · rename_i k; exact h.fresh hr k
/-- All roots are small integers. -/
def Sm (ds : List Rat) : Prop := ∀ r ∈ ds, ∃ z : Int, r = (z : Rat) ∧ z.natAbs ≤ 9
theorem Sm.dn {ds : List Rat} (h : Sm ds) {r : Int} (hr : r.natAbs ≤ 9) : Sm (dn (r : Rat) ds) := fun x hx => by
  rcases (dn_mem _ _ _).1 hx with e | e
  · exact ⟨r, e, hr⟩
  · exact h x e
theorem want_mulO {ds : List Rat} {r : Int} (h : Sm ds) (hd : ds.length ≤ 4) (hr : r.natAbs ≤ 9) : pmulO (prodl 1 ds) (lin (r : Rat)) = .ok (prodl 1 ((r : Rat) :: ds)) := by
  have ib := prodl_ib h rfl
  have ib4 : IbL (10 ^ 4) (prodl 1 ds) := fun i => (ib.1 i).mono (Nat.pow_le_pow_right (by decide) hd)
  have l : IbL 9 (lin (r : Rat)) := fun i => by
    match i with
    | 0 => exact ⟨-r, by show -(r : Rat) = _; rw [Rat.intCast_neg], by omega⟩
    | 1 => exact ⟨1, rfl, by decide⟩
    | i + 2 => rw [show lin (r : Rat) = [-(r : Rat), 1] from rfl, coef_succ, coef_succ, coef_nil]; exact Ib.zero _
  exact (pmulO_ok ib4 l (n := 5) (by omega) (by show (prodl 1 ds).length - 1 + (2 - 1) ≤ 64; omega) (big64 (by decide))).1
theorem want_tr {ds : List Rat} (h : Sm ds) (hd : ds.length ≤ 4) : Tr (prodl 1 ds) ∧ (prodl 1 ds).length ≤ 65 := ⟨Tr.of (prodl_trim one_ne ds), by rw [(prodl_ib h rfl).2]; omega⟩
/-- Memory in the loops. -/
def SqR (w5 : World) (r : Nat) (A : Option Addr) (n c : Nat) (B : Option Addr) (m d : Nat) (P ds es : List Rat) (M : Nat) (wr : World) : Prop := ∃ (cs : Array Value) (L L' : List RVal), Mem w5 wr [.pol A n c L, .pol B m d L', .cel r 60 cs] ∧ Vs L P ∧ Vs L' (prodl 1 ds) ∧ Seen cs ds ∧ SB P es M ∧ Sm ds
set_option linter.unusedSimpArgs false in
set_option linter.unusedVariables false in
set_option maxRecDepth 20000 in
set_option maxHeartbeats 1200000 in
theorem unipolySquarefree_any (Br : Option Addr) (mr dr : Nat) (zr : List Int) (Bp : Option Addr) (mp dp : Nat) (zp : List Int) (zn : Int) (w : World) (ir : ISl w Br mr dr zr) (ip : BSl w Bp mp dp zp) (hn1 : -9223372036854775808 ≤ zn) (hn2 : zn ≤ 9223372036854775807) : Calls Tryz.prog 11 #[.slice Br mr dr, .slice Bp mp dp, .int .i64 zn] w (Yes w) := by
  have HIr := hI ir
  have HIp := hI ip
  have HBn := hI (And.intro hn1 hn2)
  clear ir ip hn1 hn2
  go_enter Tryz.func11, Tryz.ntmps11
  go_wp2_with fail
  refine (sane_any w).mono ?_
  rintro e w1 ⟨rfl, hb⟩
  have B1 := hI hb
  clear hb
  obtain ⟨cc, hcc⟩ : ∃ p : Int, pk zn 50 = p := ⟨_, rfl⟩
  have hc1 : 0 ≤ cc := by rw [← hcc]; exact pk_lo zn (by decide)
  have hc2 : cc < 50 := by rw [← hcc]; exact pk_hi zn (by decide)
  go_wp2_with fail
  have C := pick_any zn 50 w1 HBn.out.1 HBn.out.2 (by decide) (by decide)
  rw [hcc] at C
  refine C.mono ?_
  clear C hcc
  rintro e w1x ⟨rfl, rfl⟩
  go_wp2_with fail
  refine (lnumber_any (1 + cc) w1 (by omega) (by omega)).mono ?_
  rintro e w2 ⟨q1, rfl, hq, hv, hb⟩
  have hn := below_new w2 (.cells #[.bool q1.g, .slice q1.A q1.n q1.c, .bool q1.gd, .slice q1.Ad q1.nd q1.cd] 27)
  have HP1 := hI (show PV (w2.alloc (.cells #[.bool q1.g, .slice q1.A q1.n q1.c, .bool q1.gd, .slice q1.Ad q1.nd q1.cd] 27)) (some ⟨w2.heap.size, 0, none⟩) 1 1 [((1 + cc : Int) : Rat)] from pv_new w2 [q1] [((1 + cc : Int) : Rat)] (fun y k => by rw [List.mem_singleton.1 k]; exact hq) (Vs.cons hv rfl) (by simp))
  have B2 := hI (below_chain (below_chain B1.out B1.out.size hb) (Nat.le_trans B1.out.size hb.size) hn)
  clear hq hv hb hn B1
  go_wp2_with fail
  obtain ⟨V2, hV2⟩ : ∃ V : World, World.alloc w2 (.cells #[.bool q1.g, .slice q1.A q1.n q1.c, .bool q1.gd, .slice q1.Ad q1.nd q1.cd] 27) = V := ⟨_, rfl⟩
  rw [hV2] at HP1 B2
  simp only [hV2]
  clear hV2
  obtain ⟨b1, hb1⟩ : ∃ b : Nat, w2.heap.size = b := ⟨_, rfl⟩
  rw [hb1] at HP1
  simp only [hb1]
  clear hb1
  refine (lnumber_any 1 V2 (by decide) (by decide)).mono ?_
  rintro e w3 ⟨q2, rfl, hq, hv, hb⟩
  have hn := below_new w3 (.cells #[.bool q2.g, .slice q2.A q2.n q2.c, .bool q2.gd, .slice q2.Ad q2.nd q2.cd] 27)
  have HP2 := hI (show PV (w3.alloc (.cells #[.bool q2.g, .slice q2.A q2.n q2.c, .bool q2.gd, .slice q2.Ad q2.nd q2.cd] 27)) (some ⟨w3.heap.size, 0, none⟩) 1 1 (prodl 1 []) from pv_new w3 [q2] [((1 : Int) : Rat)] (fun y k => by rw [List.mem_singleton.1 k]; exact hq) (Vs.cons hv rfl) (by simp))
  have HP1b := hI ((HP1.out.on hb).on hn)
  have B5 := hI (below_chain (below_chain B2.out B2.out.size hb) (Nat.le_trans B2.out.size hb.size) hn)
  clear hq hv hb hn B2 HP1
  obtain ⟨w5, hV3⟩ : ∃ V : World, World.alloc w3 (.cells #[.bool q2.g, .slice q2.A q2.n q2.c, .bool q2.gd, .slice q2.Ad q2.nd q2.cd] 27) = V := ⟨_, rfl⟩
  rw [hV3] at HP2 B5 HP1b
  obtain ⟨L1, hp1, hv1⟩ := HP1b.out
  obtain ⟨L2, hp2, hv2⟩ := HP2.out
  have hno : NoU #[.bool false, .bool false, .bool false, .bool false, .bool false, .bool false, .bool false, .bool false, .bool false, .bool false, .bool false, .bool false, .bool false, .bool false, .bool false, .bool false, .bool false, .bool false, .bool false] := fun i v hv x e => by subst e; rw [List.getElem?_toArray] at hv; have := List.mem_of_getElem? hv; simp at this
  have M0 := hI ((((((Mem.nil w5).old (x := .pol (some ⟨b1, 0, none⟩) 1 1 L1) (by simp) hp1 rfl).old (x := .pol (some ⟨w3.heap.size, 0, none⟩) 1 1 L2) (by simp [Rs.own]) hp2 rfl).newCel (t := 60) hno w5.heap.size rfl).perm (List.perm_append_comm (l₁ := [_]) (l₂ := [_, _]))).perm (List.Perm.swap _ _ _))
  have H0 := hI (show SqR w5 w5.heap.size (some ⟨b1, 0, none⟩) 1 1 (some ⟨w3.heap.size, 0, none⟩) 1 1 [((1 + cc : Int) : Rat)] [] [] 0 _ from ⟨_, L1, L2, M0.out, hv1, hv2, ⟨rfl, hno, fun i hi => ⟨false, by match i, hi with | 0, _ | 1, _ | 2, _ | 3, _ | 4, _ | 5, _ | 6, _ | 7, _ | 8, _ | 9, _ | 10, _ | 11, _ | 12, _ | 13, _ | 14, _ | 15, _ | 16, _ | 17, _ | 18, _ => rfl | i + 19, h => omega, by simp⟩⟩, SB.start (by omega) (by omega), fun _ k => nomatch k⟩)
  clear hp1 hv1 hp2 hv2 hno M0 HP1b HP2
  have HIr5 := hI (HIr.out.on B5.out)
  have hmr : mr ≤ 9223372036854775807 := Nat.le_trans HIr5.out.2.1 HIr5.out.2.2.1
  have hmp : mp ≤ 9223372036854775807 := Nat.le_trans HIp.out.2.1 HIp.out.2.2.1
  go_wp2_with fail
  clear hV3
  obtain ⟨r, hr⟩ : ∃ r : Nat, w5.heap.size = r := ⟨_, rfl⟩
  rw [hr] at H0
  simp only [hr]
  clear hr
  go_loopw [7, 8, 10] (fun pv qv v wr => ∃ (k : Nat) (Ak : Option Addr) (nk ck : Nat) (Bk : Option Addr) (mk dk : Nat), pv = .slice Ak nk ck ∧ qv = .slice Bk mk dk ∧ v = .int .i64 k ∧ k ≤ mr ∧ k ≤ 4 ∧ Hid (∃ (P ds : List Rat) (M : Nat), SqR w5 r Ak nk ck Bk mk dk P ds ds M wr ∧ M ≤ 3 * k ∧ ds.length ≤ k)) (fun _ _ v _ => mr - (intOf v).toNat)
  case atStart => exact ⟨0, _, _, _, _, _, _, rfl, rfl, rfl, Nat.zero_le _, Nat.zero_le _, hI ⟨_, _, _, H0.out, Nat.le_refl _, Nat.le_refl _⟩⟩
  case round =>
    obtain ⟨k, Ak, nk, ck, Bk, mk, dk, rfl, rfl, rfl, hk, hk4, HR1⟩ := hrel
    have HR0 := hI HR1.out
    clear H0 HR1
    obtain ⟨P, ds, M, HR, hM, hds⟩ := HR0.out
    have HR := hI HR
    clear HR0
    by_cases hlt : k < mr ∧ k < 4
    · obtain ⟨hlt, hlt4⟩ := hlt
      have HBL := hI (show Below w5.heap.size w5 wr from by obtain ⟨_, _, _, h, _⟩ := HR.out; exact h.bel)
      obtain ⟨adr, z, rfl, x0, hz1, hz2⟩ := isl_el' (HIr5.out.on HBL.out) hlt
      obtain ⟨pc, hpc⟩ : ∃ p : Int, pk z 19 = p := ⟨_, rfl⟩
      have hp1 : 0 ≤ pc := by rw [← hpc]; exact pk_lo z (by decide)
      have hp2 : pc < 19 := by rw [← hpc]; exact pk_hi z (by decide)
      go_wp2_with fail
      have C := pick_any z 19 wr hz1 hz2 (by decide) (by decide)
      rw [hpc] at C
      refine C.mono ?_
      clear C x0 hpc hz1 hz2
      rintro e w6 ⟨rfl, rfl⟩
      skip
      by_cases hkp : k < mp
      · obtain ⟨adp, zq, rfl, y0, hy1, hy2⟩ := HIp.out.el (below_chain B5.out B5.out.size HBL.out) hkp
        have hK1 : 1 ≤ 1 + zq % 3 ∧ 1 + zq % 3 ≤ 3 := by omega
        obtain ⟨hK1, hK2⟩ := hK1
        have hcv : IntKind.i64.wrap zq = zq := IntWalk.i64_in _ (by omega)
        have htm : zq.tmod 3 = zq % 3 := Int.tmod_eq_emod_of_nonneg hy1
        have htw : IntKind.i64.wrap (zq % 3) = zq % 3 := IntWalk.i64_in _ (by omega)
        have htw2 : IntKind.i64.wrap (1 + zq % 3) = 1 + zq % 3 := IntWalk.i64_in _ (by omega)
        go_upto_region 13 with fail
        clear y0 hcv htm htw htw2
        obtain ⟨KK, hKK⟩ : ∃ x : Int, 1 + zq % 3 = x := ⟨_, rfl⟩
        rw [hKK] at hK1 hK2
        simp only [hKK]
        clear hKK
        have hr9 : (pc - 9).natAbs ≤ 9 := by omega
        have H1 := hI (show ∃ P : List Rat, SqR w5 r Ak nk ck Bk mk dk P ds (if (0 : Nat) = 0 then ds else dn ((pc - 9 : Int) : Rat) ds) (M + 0) wr from ⟨P, HR.out⟩)
        clear HR HBL
        go_wp2_with fail
        go_loopw [7, 13] (fun pv v wr => ∃ (j : Nat) (Aj : Option Addr) (nj cj : Nat), pv = .slice Aj nj cj ∧ v = .int .i64 j ∧ (j : Int) ≤ KK ∧ Hid (∃ P : List Rat, SqR w5 r Aj nj cj Bk mk dk P ds (if j = 0 then ds else dn ((pc - 9 : Int) : Rat) ds) (M + j) wr)) (fun _ v _ => 3 - (intOf v).toNat)
        case atStart => exact ⟨0, _, _, _, rfl, rfl, by omega, H1⟩
        case round =>
          obtain ⟨j, Aj, nj, cj, rfl, rfl, hj, HR1⟩ := hrel
          have HR0 := hI HR1.out
          clear H1 HR1
          obtain ⟨P, HR⟩ := HR0.out
          have HR := hI HR
          clear HR0
          by_cases hjk : (j : Int) < KK
          · go_wp2_with fail
            refine (linear_any (pc - 9) wr (by omega) (by omega)).mono ?_
            rintro e w7 ⟨A2, n2, c2, rfl, hp, hb⟩
            obtain ⟨cs, L, L2, HM, hv1, hv2, hs, hsb, hsm⟩ := HR.out
            have M7 := hI (HM.on hb)
            have HP2 := hI hp
            have HX := hI (show Vs L P ∧ Vs L2 (prodl 1 ds) ∧ Seen cs ds ∧ Sm ds from ⟨hv1, hv2, hs, hsm⟩)
            have HSB := hI hsb
            clear HM hp hb hv1 hv2 hs hsb hsm HR
            go_wp2_with fail
            have C := Mul_fresh Aj nj cj P A2 n2 c2 (lin' (pc - 9)) w7 ⟨L, M7.out.pol 0 rfl, HX.out.1⟩ HP2.out (HSB.out.tr (by omega)).1 (lin_ok (pc - 9)).1 (HSB.out.tr (by omega)).2 (lin_ok (pc - 9)).2
            rw [show pmulO P (lin' (pc - 9)) = .ok (pmul P (lin ((pc - 9 : Int) : Rat))) by rw [lin_eq']; exact HSB.out.mulO hr9 (by omega)] at C
            refine C.mono ?_
            clear C
            rintro e w8 ⟨A3, n3, c3, rfl, ⟨L3, hp, hv⟩, hf, hb⟩
            have M8 := hI ((M7.out.addPol hb hp hf).sub (l' := [.pol A3 n3 c3 L3, .pol Bk mk dk L2, .cel r 60 cs]) (by simp))
            have HN := hI (show SB (pmul P (lin ((pc - 9 : Int) : Rat))) (if j + 1 = 0 then ds else dn ((pc - 9 : Int) : Rat) ds) (M + (j + 1)) by
      rw [if_neg (by omega)]
      by_cases j0 : j = 0
      · subst j0; have h := HSB.out; rw [if_pos rfl] at h; exact h.first hr9
      · have h := HSB.out; rw [if_neg j0] at h; exact h.again hr9 ((dn_mem _ _ _).2 (Or.inl rfl)))
            have HR2 := hI (show ∃ P : List Rat, SqR w5 r A3 n3 c3 Bk mk dk P ds (if j + 1 = 0 then ds else dn ((pc - 9 : Int) : Rat) ds) (M + (j + 1)) w8 from ⟨_, cs, L3, L2, M8.out, hv, HX.out.2.1, HX.out.2.2.1, HN.out, HX.out.2.2.2⟩)
            clear hp hv hf hb M7 M8 HP2 HX HSB HN
            go_wp2
            go_roundw
            case rel => exact ⟨j + 1, A3, n3, c3, rfl, by go_num, by omega, HR2⟩
            case measure => simp [intOf]; omega
          · have hjK : (j : Int) = KK := by omega
            have j0 : j ≠ 0 := by omega
            obtain ⟨cs, L, L2, HM, hv1, hv2, hs, hsb, hsm⟩ := HR.out
            rw [if_neg j0] at hsb
            obtain ⟨i, hi⟩ : ∃ i : Nat, pc = (i : Int) := ⟨pc.toNat, by omega⟩
            subst hi
            have hi19 : i < 19 := by omega
            obtain ⟨bb, hbb, hbm⟩ := hs.2.2 i hi19
            have HM := hI HM
            have HV := hI (And.intro hv1 hv2)
            have HSN := hI hs
            have HSB := hI hsb
            have HSM := hI hsm
            have HBM := hI hbm
            have hcs : cs.size = 19 := hs.1
            clear hv1 hv2 hs hsb hsm hbm HR
            have x0 : wr.cell? ⟨r, i, none⟩ = some (.bool bb) := by rw [Blk.cell (HM.out.cel 2 rfl).1 i]; exact hbb
            have f0 := Blk.frozen (HM.out.cel 2 rfl).1 i
            clear hbb
            rcases bb
            · have HNI := hI (show (((i : Int) - 9 : Int) : Rat) ∉ ds from fun h => by have := HBM.out.2 h; cases this)
              clear HBM
              go_wp2_with fail
              clear x0 f0
              refine (linear_any ((i : Int) - 9) wr (by omega) (by omega)).mono ?_
              rintro e w7 ⟨A2, n2, c2, rfl, hp, hb⟩
              have M7 := hI (HM.out.on hb)
              have HP2 := hI hp
              clear HM hp hb
              go_wp2_with fail
              have C := Mul_fresh Bk mk dk (prodl 1 ds) A2 n2 c2 (lin' ((i : Int) - 9)) w7 ⟨L2, M7.out.pol 1 rfl, HV.out.2⟩ HP2.out (want_tr HSM.out (by omega)).1 (lin_ok _).1 (want_tr HSM.out (by omega)).2 (lin_ok _).2
              rw [show pmulO (prodl 1 ds) (lin' ((i : Int) - 9)) = .ok (prodl 1 ((((i : Int) - 9 : Int) : Rat) :: ds)) by rw [lin_eq']; exact want_mulO HSM.out (by omega) hr9] at C
              refine C.mono ?_
              clear C
              rintro e w8 ⟨A3, n3, c3, rfl, ⟨L3, hp, hv⟩, hf, hb⟩
              have M8 := hI (((M7.out.addPol hb hp hf).sub (l' := [.pol A3 n3 c3 L3, .pol Aj nj cj L, .cel r 60 cs]) (by simp)).perm (List.Perm.swap _ _ _))
              have HW := hI hv
              clear hp hv hf hb M7 HP2
              have hi9 : ((i : Int)).toNat = i := rfl
              have x1 : w8.cell? ⟨r, i, none⟩ = some (.bool false) ∨ True := Or.inr trivial
              clear x1
              have f1 := Blk.frozen (M8.out.cel 2 rfl).1 i
              have x1 := Blk.cell (M8.out.cel 2 rfl).1 i
              have hget : cs[i]? = some cs[i] := Array.getElem?_eq_getElem (by omega)
              rw [hget] at x1
              go_wp2_with fail
              clear x1 f1
              generalize hU : World.setCell w8 _ _ = U
              have HR2 := hI (show SqR w5 r Aj nj cj A3 n3 c3 P (dn (((i : Int) - 9 : Int) : Rat) ds) (dn (((i : Int) - 9 : Int) : Rat) ds) (M + j) U from ⟨_, L, L3, hU ▸ M8.out.putCel 2 rfl i (by omega) (fun x e => by cases e), HV.out.1, by unfold dn; rw [if_neg HNI.out]; exact HW.out, HSN.out.set hi19 (dn_mem _ _), HSB.out, HSM.out.dn hr9⟩)
              clear hU M8 HW HV HSN HSB HSM HNI hget
              go_roundw
              case rel => exact ⟨k + 1, Aj, nj, cj, A3, n3, c3, rfl, rfl, by go_num, by omega, by omega, hI ⟨_, _, _, HR2.out, by omega, by have := dn_len (((i : Int) - 9 : Int) : Rat) ds; omega⟩⟩
              case measure => simp [intOf]; omega
            · have HNI := hI (show (((i : Int) - 9 : Int) : Rat) ∈ ds from HBM.out.1 rfl)
              clear HBM
              go_wp2_with fail
              clear x0 f0
              generalize hU : World.setCell wr _ _ = U
              have HR2 := hI (show SqR w5 r Aj nj cj Bk mk dk P (dn (((i : Int) - 9 : Int) : Rat) ds) (dn (((i : Int) - 9 : Int) : Rat) ds) (M + j) U from ⟨_, L, L2, hU ▸ HM.out.putCel 2 rfl i (by omega) (fun x e => by cases e), HV.out.1, by unfold dn; rw [if_pos HNI.out]; exact HV.out.2, HSN.out.set hi19 (dn_mem _ _), HSB.out, HSM.out.dn hr9⟩)
              clear hU HM HV HSN HSB HSM HNI
              go_roundw
              case rel => exact ⟨k + 1, Aj, nj, cj, Bk, mk, dk, rfl, rfl, by go_num, by omega, by omega, hI ⟨_, _, _, HR2.out, by omega, by have := dn_len (((i : Int) - 9 : Int) : Rat) ds; omega⟩⟩
              case measure => simp [intOf]; omega
      · go_upto_region 13 with fail
        have hr9 : (pc - 9).natAbs ≤ 9 := by omega
        have H1 := hI (show ∃ P : List Rat, SqR w5 r Ak nk ck Bk mk dk P ds (if (0 : Nat) = 0 then ds else dn ((pc - 9 : Int) : Rat) ds) (M + 0) wr from ⟨P, HR.out⟩)
        clear HR HBL
        go_wp2_with fail
        go_loopw [7, 13] (fun pv v wr => ∃ (j : Nat) (Aj : Option Addr) (nj cj : Nat), pv = .slice Aj nj cj ∧ v = .int .i64 j ∧ (j : Int) ≤ 1 ∧ Hid (∃ P : List Rat, SqR w5 r Aj nj cj Bk mk dk P ds (if j = 0 then ds else dn ((pc - 9 : Int) : Rat) ds) (M + j) wr)) (fun _ v _ => 3 - (intOf v).toNat)
        case atStart => exact ⟨0, _, _, _, rfl, rfl, by omega, H1⟩
        case round =>
          obtain ⟨j, Aj, nj, cj, rfl, rfl, hj, HR1⟩ := hrel
          have HR0 := hI HR1.out
          clear H1 HR1
          obtain ⟨P, HR⟩ := HR0.out
          have HR := hI HR
          clear HR0
          by_cases hjk : (j : Int) < 1
          · go_wp2_with fail
            refine (linear_any (pc - 9) wr (by omega) (by omega)).mono ?_
            rintro e w7 ⟨A2, n2, c2, rfl, hp, hb⟩
            obtain ⟨cs, L, L2, HM, hv1, hv2, hs, hsb, hsm⟩ := HR.out
            have M7 := hI (HM.on hb)
            have HP2 := hI hp
            have HX := hI (show Vs L P ∧ Vs L2 (prodl 1 ds) ∧ Seen cs ds ∧ Sm ds from ⟨hv1, hv2, hs, hsm⟩)
            have HSB := hI hsb
            clear HM hp hb hv1 hv2 hs hsb hsm HR
            go_wp2_with fail
            have C := Mul_fresh Aj nj cj P A2 n2 c2 (lin' (pc - 9)) w7 ⟨L, M7.out.pol 0 rfl, HX.out.1⟩ HP2.out (HSB.out.tr (by omega)).1 (lin_ok (pc - 9)).1 (HSB.out.tr (by omega)).2 (lin_ok (pc - 9)).2
            rw [show pmulO P (lin' (pc - 9)) = .ok (pmul P (lin ((pc - 9 : Int) : Rat))) by rw [lin_eq']; exact HSB.out.mulO hr9 (by omega)] at C
            refine C.mono ?_
            clear C
            rintro e w8 ⟨A3, n3, c3, rfl, ⟨L3, hp, hv⟩, hf, hb⟩
            have M8 := hI ((M7.out.addPol hb hp hf).sub (l' := [.pol A3 n3 c3 L3, .pol Bk mk dk L2, .cel r 60 cs]) (by simp))
            have HN := hI (show SB (pmul P (lin ((pc - 9 : Int) : Rat))) (if j + 1 = 0 then ds else dn ((pc - 9 : Int) : Rat) ds) (M + (j + 1)) by
      rw [if_neg (by omega)]
      by_cases j0 : j = 0
      · subst j0; have h := HSB.out; rw [if_pos rfl] at h; exact h.first hr9
      · have h := HSB.out; rw [if_neg j0] at h; exact h.again hr9 ((dn_mem _ _ _).2 (Or.inl rfl)))
            have HR2 := hI (show ∃ P : List Rat, SqR w5 r A3 n3 c3 Bk mk dk P ds (if j + 1 = 0 then ds else dn ((pc - 9 : Int) : Rat) ds) (M + (j + 1)) w8 from ⟨_, cs, L3, L2, M8.out, hv, HX.out.2.1, HX.out.2.2.1, HN.out, HX.out.2.2.2⟩)
            clear hp hv hf hb M7 M8 HP2 HX HSB HN
            go_wp2
            go_roundw
            case rel => exact ⟨j + 1, A3, n3, c3, rfl, by go_num, by omega, HR2⟩
            case measure => simp [intOf]; omega
          · have hjK : (j : Int) = 1 := by omega
            have j0 : j ≠ 0 := by omega
            obtain ⟨cs, L, L2, HM, hv1, hv2, hs, hsb, hsm⟩ := HR.out
            rw [if_neg j0] at hsb
            obtain ⟨i, hi⟩ : ∃ i : Nat, pc = (i : Int) := ⟨pc.toNat, by omega⟩
            subst hi
            have hi19 : i < 19 := by omega
            obtain ⟨bb, hbb, hbm⟩ := hs.2.2 i hi19
            have HM := hI HM
            have HV := hI (And.intro hv1 hv2)
            have HSN := hI hs
            have HSB := hI hsb
            have HSM := hI hsm
            have HBM := hI hbm
            have hcs : cs.size = 19 := hs.1
            clear hv1 hv2 hs hsb hsm hbm HR
            have x0 : wr.cell? ⟨r, i, none⟩ = some (.bool bb) := by rw [Blk.cell (HM.out.cel 2 rfl).1 i]; exact hbb
            have f0 := Blk.frozen (HM.out.cel 2 rfl).1 i
            clear hbb
            rcases bb
            · have HNI := hI (show (((i : Int) - 9 : Int) : Rat) ∉ ds from fun h => by have := HBM.out.2 h; cases this)
              clear HBM
              go_wp2_with fail
              clear x0 f0
              refine (linear_any ((i : Int) - 9) wr (by omega) (by omega)).mono ?_
              rintro e w7 ⟨A2, n2, c2, rfl, hp, hb⟩
              have M7 := hI (HM.out.on hb)
              have HP2 := hI hp
              clear HM hp hb
              go_wp2_with fail
              have C := Mul_fresh Bk mk dk (prodl 1 ds) A2 n2 c2 (lin' ((i : Int) - 9)) w7 ⟨L2, M7.out.pol 1 rfl, HV.out.2⟩ HP2.out (want_tr HSM.out (by omega)).1 (lin_ok _).1 (want_tr HSM.out (by omega)).2 (lin_ok _).2
              rw [show pmulO (prodl 1 ds) (lin' ((i : Int) - 9)) = .ok (prodl 1 ((((i : Int) - 9 : Int) : Rat) :: ds)) by rw [lin_eq']; exact want_mulO HSM.out (by omega) hr9] at C
              refine C.mono ?_
              clear C
              rintro e w8 ⟨A3, n3, c3, rfl, ⟨L3, hp, hv⟩, hf, hb⟩
              have M8 := hI (((M7.out.addPol hb hp hf).sub (l' := [.pol A3 n3 c3 L3, .pol Aj nj cj L, .cel r 60 cs]) (by simp)).perm (List.Perm.swap _ _ _))
              have HW := hI hv
              clear hp hv hf hb M7 HP2
              have hi9 : ((i : Int)).toNat = i := rfl
              have x1 : w8.cell? ⟨r, i, none⟩ = some (.bool false) ∨ True := Or.inr trivial
              clear x1
              have f1 := Blk.frozen (M8.out.cel 2 rfl).1 i
              have x1 := Blk.cell (M8.out.cel 2 rfl).1 i
              have hget : cs[i]? = some cs[i] := Array.getElem?_eq_getElem (by omega)
              rw [hget] at x1
              go_wp2_with fail
              clear x1 f1
              generalize hU : World.setCell w8 _ _ = U
              have HR2 := hI (show SqR w5 r Aj nj cj A3 n3 c3 P (dn (((i : Int) - 9 : Int) : Rat) ds) (dn (((i : Int) - 9 : Int) : Rat) ds) (M + j) U from ⟨_, L, L3, hU ▸ M8.out.putCel 2 rfl i (by omega) (fun x e => by cases e), HV.out.1, by unfold dn; rw [if_neg HNI.out]; exact HW.out, HSN.out.set hi19 (dn_mem _ _), HSB.out, HSM.out.dn hr9⟩)
              clear hU M8 HW HV HSN HSB HSM HNI hget
              go_roundw
              case rel => exact ⟨k + 1, Aj, nj, cj, A3, n3, c3, rfl, rfl, by go_num, by omega, by omega, hI ⟨_, _, _, HR2.out, by omega, by have := dn_len (((i : Int) - 9 : Int) : Rat) ds; omega⟩⟩
              case measure => simp [intOf]; omega
            · have HNI := hI (show (((i : Int) - 9 : Int) : Rat) ∈ ds from HBM.out.1 rfl)
              clear HBM
              go_wp2_with fail
              clear x0 f0
              generalize hU : World.setCell wr _ _ = U
              have HR2 := hI (show SqR w5 r Aj nj cj Bk mk dk P (dn (((i : Int) - 9 : Int) : Rat) ds) (dn (((i : Int) - 9 : Int) : Rat) ds) (M + j) U from ⟨_, L, L2, hU ▸ HM.out.putCel 2 rfl i (by omega) (fun x e => by cases e), HV.out.1, by unfold dn; rw [if_pos HNI.out]; exact HV.out.2, HSN.out.set hi19 (dn_mem _ _), HSB.out, HSM.out.dn hr9⟩)
              clear hU HM HV HSN HSB HSM HNI
              go_roundw
              case rel => exact ⟨k + 1, Aj, nj, cj, Bk, mk, dk, rfl, rfl, by go_num, by omega, by omega, hI ⟨_, _, _, HR2.out, by omega, by have := dn_len (((i : Int) - 9 : Int) : Rat) ds; omega⟩⟩
              case measure => simp [intOf]; omega
    · rcases (show (k < mr ∧ ¬ k < 4) ∨ ¬ k < mr by omega) with ⟨hk1, hk2⟩ | hk1
      all_goals
        obtain ⟨cs, L, L2, HM, hv1, hv2, hs, hsb, hsm⟩ := HR.out
        have HV := hI (hsb.val (by omega) (by omega) hsm)
        have M20 := hI (show Lm w wr [.p Ak nk ck P, .p Bk mk dk (prodl 1 ds)] from (((Lm.nil w).on (below_chain B5.out B5.out.size HM.bel)).add (x := .p Bk mk dk (prodl 1 ds)) ⟨⟨L2, HM.pol 1 rfl, hv2⟩, HV.out.ts⟩).add (x := .p Ak nk ck P) ⟨⟨L, HM.pol 0 rfl, hv1⟩, hsb.tr (by omega)⟩)
        clear HM hv1 hv2 hs hsb hsm HR
        go_wp2_with fail
        have C := Squarefree_any _ _ _ _ wr (M20.out.p 0 rfl).1 (M20.out.p 0 rfl).2.1 (M20.out.p 0 rfl).2.2 HV.out.t1 HV.out.t2
        rw [HV.out.s] at C
        refine C.mono ?_
        clear C
        rintro e w21 ⟨As, ns, cs2, rfl, hp, hb⟩
        have M21 := hI ((M20.out.on hb).add (x := .p As ns cs2 (prodl 1 ds)) ⟨hp, HV.out.ts⟩)
        clear M20 hp hb
        go_wp2_with fail
        have C := Derivative_any _ _ _ _ w21 (M21.out.p 0 rfl).1 (M21.out.p 0 rfl).2.1 (M21.out.p 0 rfl).2.2
        rw [HV.out.d.1] at C
        refine C.mono ?_
        clear C
        rintro e w22 ⟨Ad, nd, cd, rfl, hp, hb⟩
        have M22 := hI ((M21.out.on hb).add (x := .p Ad nd cd (pderiv (prodl 1 ds))) ⟨hp, HV.out.d.2⟩)
        clear M21 hp hb
        go_wp2_with fail
        have C := GCD_any _ _ _ _ _ _ _ _ w22 (M22.out.p 1 rfl).1 (M22.out.p 0 rfl).1 (M22.out.p 1 rfl).2.1 (M22.out.p 0 rfl).2.1 (M22.out.p 1 rfl).2.2 (M22.out.p 0 rfl).2.2
        rw [HV.out.g] at C
        refine C.mono ?_
        clear C
        rintro e w23 ⟨Ag, ng, cg, rfl, hp, hb⟩
        have M23 := hI ((M22.out.on hb).add (x := .p Ag ng cg [1]) ⟨hp, Or.inr (show (1 : Rat) ≠ 0 from one_ne), by decide⟩)
        clear M22 hp hb
        have hg1 : ng = 1 := (M23.out.p 0 rfl).1.len
        subst hg1
        go_wp2_with fail
        have C := Squarefree_any none 0 0 [] w23 ⟨[], PSl.nil _, rfl⟩ Tr.nil (by decide) (fun d e => by injection e with e; rw [← e]; exact Tr.nil) (fun d g q e1 e2 e3 => by injection e1 with e1; subst e1; injection e2 with e2; subst e2; cases e3)
        rw [show sqfO [] = .error 4 from rfl] at C
        refine C.mono ?_
        clear C
        rintro e w24 ⟨rfl, hb⟩
        have M25 := hI (M23.out.on hb)
        clear M23 hb
        go_wp2_with fail
        refine (same_yes (M25.out.p 2 rfl).1 (M25.out.p 4 rfl).1 (by have := (M25.out.p 2 rfl).2.2; omega)).mono ?_
        rintro e w26 ⟨rfl, hb⟩
        have M27 := hI (M25.out.on hb)
        clear M25 hb
        go_wp2
        go_ret
        exact ⟨rfl, M27.out.bel⟩
end Go.Proofs.YtmncfbfepdbioaaGreatDoor
