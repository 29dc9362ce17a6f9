/-
 What further laws use of the texts before.
-/
import Derived.Test.YtmncfbfepdbioaaGreatDoorLwR
import Derived.Test.YtmncfbfepdbioaaGreatDoorPolQ
import Derived.Test.YtmncfbfepdbioaaGreatDoorPolV
import Derived.Test.YtmncfbfepdbioaaGreatDoorPolX
import Derived.Test.YtmncfbfepdbioaaGreatDoorUniLm
import Derived.Test.YtmncfbfepdbioaaGreatDoorUniMf
set_option linter.unusedSimpArgs false
set_option maxRecDepth 20000
set_option maxHeartbeats 4000000
set_option linter.unusedVariables false
namespace Go.Proofs.YtmncfbfepdbioaaGreatDoor
open Go.RowKit
def derivO (p : List Rat) : Except Int (List Rat) := listO (fun i => mulO ((i + 1 : Nat) : Rat) (coef p (i + 1))) (p.length - 1)
theorem uderiv_any (A : Option Addr) (n c : Nat) (L : List RVal) (l : List Rat) (w : World) (h : PSl w A n c L) (hv : Vs L l) (hn : n <= 100000) :
 Calls Tryz.prog 91 #[.slice A n c] w (OutP (derivO l) w) := by
 have HV := hI hv
 have HN := hI (show n = l.length by rw [<- hv.len, h.len])
 obtain ⟨m, hm⟩ : ∃ m : Nat, n - 1 = m := ⟨_, rfl⟩
 have hmx : max (0 : Int) ((n : Int) - 1) = (m : Int) := by omega
 have hmx2 : max 0 (IntKind.i64.wrap ((n : Int) - 1)) = (m : Int) := by rw [IntWalk.i64_in _ (by omega)]; exact hmx
 have hmk := fun w => make_rats w m (by omega)
 have M := hI (((Mem.nil w).old (x := .pol A n c L) (by simp) h rfl).newRow m _ rfl)
 obtain ⟨g, hg⟩ : ∃ g : Nat -> Except Int Rat, (fun i => mulO ((i + 1 : Nat) : Rat) (coef l (i + 1))) = g := ⟨_, rfl⟩
 have HG := hI hg
 have HS := hI (show derivO l = listO g m by rw [<- HG.out]; unfold derivO; rw [<- HN.out, hm])
 clear h hv hg
 go_enter Tryz.func91, Tryz.ntmps91
 go_wp2_with fail
 have H0 := hI (show RowR w [.pol A n c L] g m w.heap.size 0 (w.alloc (.cells (nils m) 27)) from ⟨_, [], M.out, Fill.nil m, rfl⟩)
 clear M hmk
 go_loopw [12] (fun v wr => ∃ k : Nat, v = .int .i64 k /\ k <= m /\ Hid (RowR w [.pol A n c L] g m w.heap.size k wr)) (fun v _ => m - (intOf v).toNat)
 case atStart => exact ⟨0, rfl, Nat.zero_le _, H0⟩
 case round =>
  obtain ⟨k, rfl, hk, HR⟩ := hrel
  clear H0
  obtain ⟨R, a, HR⟩ := HR.out
  have HR := hI HR
  by_cases hlt : k < m
  . have HRl := hI (show k < R.length by rw [HR.out.2.1.1]; exact hlt)
    obtain ⟨ad, q, p, rfl, hq, hp⟩ := (HR.out.1.pol 1 rfl).el (k := k + 1) (by omega)
    have HQ := hI hq
    clear hq
    have hi1 : IntKind.i64.wrap ((k : Int) + 1) = (k : Int) + 1 := IntWalk.i64_in _ (by omega)
    have hi2 : ((k : Int) + 1) < n := by omega
    have hi3 : (0 : Int) <= (k : Int) + 1 := by omega
    have hi4 : ((k : Int) + 1).toNat = k + 1 := by omega
    go_wp2_with fail
    refine anyS_start (fun w' => Mem w w' [.arr w.heap.size R, .pol (some ad) n c L]) [12] 13 (by kernel_rfl) (by kernel_rfl) ?_
    have hS := (hI HR.out.1).out.drew
    refine anyS_take (v := ?_) 0 (some 15) rfl (by kernel_rfl) (by kernel_rfl) (fun _ _ _ h => h) (by rfl) ?_ hS ?_; rotate_left
    . (intro w' hSw; go_simp; try with_reducible rfl)
    try simp only [Act.put, List.setIfInBounds_toArray, List.set_cons_zero, List.set_cons_succ]
    refine anyS_take (v := ?_) 1 (some 16) rfl (by kernel_rfl) (by kernel_rfl) (fun _ _ _ h => h) (by rfl) ?_ hS ?_; rotate_left
    . (intro w' hSw; go_simp; try with_reducible rfl)
    try simp only [Act.put, List.setIfInBounds_toArray, List.set_cons_zero, List.set_cons_succ]
    refine anyS_take (v := ?_) 2 (some 17) rfl (by kernel_rfl) (by kernel_rfl) (fun _ _ _ h => h) (by rfl) ?_ hS ?_; rotate_left
    . (intro w' hSw; go_simp; try with_reducible rfl)
    try simp only [Act.put, List.setIfInBounds_toArray, List.set_cons_zero, List.set_cons_succ]
    refine anyS_take (v := ?_) 3 (some 18) rfl (by kernel_rfl) (by kernel_rfl) (fun _ _ _ h => h) (by rfl) ?_ hS ?_; rotate_left
    . (intro w' hSw; go_simp; try with_reducible rfl)
    try simp only [Act.put, List.setIfInBounds_toArray, List.set_cons_zero, List.set_cons_succ]
    refine anyS_take (v := ?_) 5 (some 20) rfl (by kernel_rfl) (by kernel_rfl) (fun _ _ _ h => h) (by rfl) ?_ hS ?_; rotate_left
    . (intro w' hSw; go_simp; try with_reducible rfl)
    try simp only [Act.put, List.setIfInBounds_toArray, List.set_cons_zero, List.set_cons_succ]
    refine anyS_take (v := ?_) 6 (some 21) rfl (by kernel_rfl) (by kernel_rfl) (fun _ _ _ h => h) (by rfl) ?_ hS ?_; rotate_left
    . (intro w' hSw; go_simp; try with_reducible rfl)
    try simp only [Act.put, List.setIfInBounds_toArray, List.set_cons_zero, List.set_cons_succ]
    refine anyS_take (v := ?_) 7 (some 22) rfl (by kernel_rfl) (by kernel_rfl) (fun _ _ _ h => h) (by rfl) ?_ hS ?_; rotate_left
    . (intro w' hSw; go_simp; try with_reducible rfl)
    try simp only [Act.put, List.setIfInBounds_toArray, List.set_cons_zero, List.set_cons_succ]
    refine anyS_take (v := ?_) 8 (some 23) rfl (by kernel_rfl) (by kernel_rfl) (fun _ _ _ h => h) (by rfl) ?_ hS ?_; rotate_left
    . (intro w' hSw; go_simp; try with_reducible rfl)
    try simp only [Act.put, List.setIfInBounds_toArray, List.set_cons_zero, List.set_cons_succ]
    refine anyS_take (v := ?_) 9 (some 24) rfl (by kernel_rfl) (by kernel_rfl) (fun _ _ _ h => h) (by rfl) ?_ hS ?_; rotate_left
    . (intro w' hSw; obtain ⟨x0, x1, x2, x3⟩ := (hSw.pol 1 rfl).c4 rfl HQ.out hp; go_simp; try with_reducible rfl)
    try simp only [Act.put, List.setIfInBounds_toArray, List.set_cons_zero, List.set_cons_succ]
    have M1 := hI hS
    clear hS
    refine anyS_one 4 (by kernel_rfl) rfl (by rfl) (fun KK hKK => ?_)
    go_simp
    (with_reducible refine (unumber_any ((k : Int) + 1) wr.drew (by omega) (by omega)).mono ?_)
    rintro e w1 ⟨q1, rfl, hq, hv, hb⟩
    have M2 := hI ((M1.out.on hb).addRat hq)
    have V1 := hI hv
    clear hq hv hb M1
    refine hKK.out _ _ (Or.inr (M2.out.drop 1)) ?_
    clear hKK KK 
    try simp only [Act.put, List.setIfInBounds_toArray, List.set_cons_zero, List.set_cons_succ]
    refine anyS_one 10 (by kernel_rfl) rfl (by rfl) (fun KK hKK => ?_)
    go_simp
    have C := uproduct_any q1 q _ _ w1 (M2.out.rat 0 rfl) ((M2.out.pol 2 rfl).ins q (List.mem_of_getElem? HQ.out)) V1.out (HV.out.at_ HQ.out)
    rcases hz : mulO (((k : Int) + 1 : Int) : Rat) (coef l (k + 1)) with er | z
    . rw [hz] at C
      (with_reducible refine C.mono ?_)
      clear C
      rintro e wE ⟨rfl, hb⟩
      have HB := hI (M2.out.on hb).bel
      have HE := hI (HS.out.trans (listO_err hlt HR.out.2.2 (by rw [<- HG.out]; exact (congrArg (fun t => mulO t (coef l (k + 1))) (by push_cast; rfl)).trans hz)))
      clear hb hz
      go_wp2
      exact ⟨rfl, by rw [HE.out]; exact ⟨rfl, HB.out⟩⟩
    . rw [hz] at C
      (with_reducible refine C.mono ?_)
      clear C
      rintro e w2 ⟨q2, rfl, hq, hv, hb⟩
      have V2 := hI (And.intro hv hz)
      have M3 := hI ((M2.out.on hb).addRat hq)
      clear hq hv hb hz M2
      refine hKK.out _ _ (Or.inr (M3.out.drop 2)) ?_
      clear hKK KK 
      try simp only [Act.put, List.setIfInBounds_toArray, List.set_cons_zero, List.set_cons_succ]
      obtain ⟨⟨c0, c1, c2, c3⟩, f0, f1, f2, f3⟩ := M3.out.rowAt 2 rfl (List.getElem?_eq_getElem HRl.out)
      refine anyS_one 11 (by kernel_rfl) rfl (by rfl) (fun KK hKK => ?_)
      go_simp
      refine hKK.out _ _ (Or.inr (M3.out.drop 2)) ?_
      clear hKK KK 
      try simp only [Act.put, List.setIfInBounds_toArray, List.set_cons_zero, List.set_cons_succ]
      refine anyS_one 12 (by kernel_rfl) rfl (by rfl) (fun KK hKK => ?_)
      go_simp
      refine hKK.out _ _ (Or.inl rfl) ?_
      clear hKK KK c0 c1 c2 c3 f0 f1 f2 f3
      refine anyS_done (by kernel_rfl) ?_
      generalize hU : World.setCell (World.setCell (World.setCell (World.setCell w2 _ _) _ _) _ _) _ _ = U
      have M9 := hI ((M3.out.putRowU 2 rfl HRl.out (M3.out.rat 0 rfl) hU).drop 2)
      have HR2 := hI (show RowR w [.pol (some ad) n c L] g m w.heap.size (k + 1) U from RowR.next M9.out HR.out.2.1 HR.out.2.2 hlt V2.out.1 (by rw [<- HG.out]; exact (congrArg (fun t => mulO t (coef l (k + 1))) (by push_cast; rfl)).trans V2.out.2))
      clear hU M9 M3
      go_wp2
      go_roundw
      case rel => exact ⟨k + 1, by go_num, by omega, HR2⟩
      case measure => simp [intOf]; omega
  . have hkm : k = m := by omega
    subst hkm
    have HP := hI (row_done HR.out.1 HR.out.2.1 HR.out.2.2 (by omega))
    have HE := hI (HS.out.trans HR.out.2.2)
    clear hlt hk
    go_wp2
    go_ret
    rw [HE.out]
    exact ⟨_, _, _, _, rfl, HP.out.1, HP.out.2, fresh_row rfl, HR.out.1.bel⟩
theorem fld_quot (A : Option Addr) (n c : Nat) (A' : Option Addr) (n' c' : Nat) (w : World) : (Instr.field 84 (.agg #[.slice A n c, .slice A' n' c']) 0).run Tryz.prog w = .ok (.slice A n c) w := by kernel_rfl
theorem cl_Derivative (p : Nat) (A : Option Addr) (n c : Nat) (L : List RVal) (a : List Rat) (w : World) (hb : Blk w p 22 #[.slice A n c]) (h : PSl w A n c L) (hv : Vs L a) (hn : n <= 1000) (ta : Tr a) :
 Calls Tryz.prog 90 #[.pointer (some ⟨p, 0, none⟩)] w (OutP (derivO a) w) := by
 have C := uderiv_any A n c L a w h hv (by omega)
 have x0 := Blk.cell hb 0
 simp only [List.getElem?_toArray, List.getElem?_cons_zero] at x0
 have HC := hI C
 generalize derivO a = r at *
 clear C hb h hv ta
 go_enter Tryz.func90, Tryz.ntmps90
 go_wp2_with fail
 have C := HC.out
 rcases r with er | l
 . refine C.mono ?_
   clear C
   rintro e wE ⟨rfl, hb⟩
   have HB := hI hb
   clear hb
   go_wp2
   exact ⟨rfl, rfl, HB.out⟩
 . refine C.mono ?_
   clear C
   rintro e w1 ⟨A3, n3, c3, L3, rfl, hp, hv, hf, hb⟩
   have HP := hI (And.intro hp (And.intro hv (And.intro hf hb)))
   clear hp hv hf hb
   go_wp2
   go_ret
   exact ⟨A3, n3, c3, L3, rfl, HP.out.1, HP.out.2.1, HP.out.2.2.1, HP.out.2.2.2⟩
theorem Derivative_any (A : Option Addr) (n c : Nat) (a : List Rat) (w : World) (h : PV w A n c a) (ta : Tr a) (la : a.length <= 65) :
 Calls Tryz.prog 41 #[.slice A n c] w (AttV (derivO a) w) := by
 have hmf : ∀ (fn : Fn) (first cap : Array Value) (w : World), (Instr.makeFunc fn first cap).run Tryz.prog w = .ok (.func fn first cap) w := fun _ _ _ _ => rfl
 obtain ⟨L, h, hv⟩ := h
 have HCK := hI (chk_ok h hv ta la)
 have HN := hI (show n <= 1000 /\ n <= 65 from ⟨by rw [<- h.len, hv.len]; omega, by rw [<- h.len, hv.len]; omega⟩)
 have M := hI ((((Mem.nil w).old (x := .pol A n c L) (by simp) h rfl).newCel (t := 22) (noUs1 A n c) _ rfl).newCel (t := 22) (noUs1 A n c) (w.heap.size + 1) (by simp))
 have HV := hI hv
 have HT := hI ta
 clear h hv ta
 go_enter Tryz.func41, Tryz.ntmps41
 go_wp2_with fail
 generalize hW : World.alloc (World.alloc w _) _ = V at *
 clear hW
 have C := attP_any 90 #[.pointer (some ⟨w.heap.size, 0, none⟩)] (w.heap.size + 1) 1 1 _ (derivO a) V (polys1 (M.out.cel 0 rfl).1 (M.out.pol 2 rfl) (by have := HN.out; omega)) (by decide) (Nat.le_refl _) (fun k hk => HCK.out) (Or.inr (Or.inr (Or.inr (Or.inr (Or.inr (Or.inl rfl)))))) (hI fun W hb => cl_Derivative w.heap.size A n c L a W ((M.out.on hb).cel 1 rfl).1 ((M.out.on hb).pol 2 rfl) HV.out HN.out.1 HT.out)
 have HC := hI C
 generalize derivO a = r at *
 clear C
 rcases r with er | l
 . refine HC.out.mono ?_
   rintro e w1 ⟨rfl, hb⟩
   have HB := hI (M.out.on hb).bel
   clear hb
   go_wp2
   go_ret2
   exact ⟨rfl, HB.out⟩
 . refine HC.out.mono ?_
   rintro e w1 ⟨A3, n3, c3, L3, rfl, hp, hv, hf, hb⟩
   have HP := hI (show PV w1 A3 n3 c3 l from ⟨L3, hp, hv⟩)
   have HB := hI (M.out.on hb).bel
   clear hp hv hf hb
   go_wp2
   go_ret2
   exact ⟨A3, n3, c3, rfl, HP.out, HB.out⟩
theorem Ib.nat (n : Nat) : Ib n ((n : Nat) : Rat) := ⟨(n : Int), by push_cast; rfl, by omega⟩
theorem derivO_ok {p : List Rat} {A n : Nat} (hp : IbL A p) (hn : p.length <= n) (hb : n * A < BIG) : derivO p = .ok (pderiv p) /\ IbL (n * A) (pderiv p) := by
 have key : ∀ i, i < p.length - 1 -> mulO ((i + 1 : Nat) : Rat) (coef p (i + 1)) = .ok (((i + 1 : Nat) : Rat) * coef p (i + 1)) := fun i hi =>
  mulO_ok (Ib.nat (i + 1)) (hp _) (Nat.lt_of_le_of_lt (Nat.mul_le_mul_right A (by omega)) hb)
 unfold derivO pderiv
 refine ⟨listO_ok key, fun i => ?_⟩
 rw [coef_map_range]
 split
 . exact ((Ib.nat (i + 1)).mul (hp _)).mono (Nat.mul_le_mul_right A (by omega))
 . exact Ib.zero _
theorem pderiv_le (p : List Rat) : (pderiv p).length <= p.length := by unfold pderiv; rw [List.length_map, List.length_range]; omega
theorem coef_one' {A : Nat} {c : Rat} (h : Ib A c) : IbL A [c] := fun i => by
 cases i with
 | zero => exact h
 | succ i => rw [coef_succ, coef_nil]; exact Ib.zero _
theorem big64 {n : Nat} (h : n < 18446744073709551616) : n < BIG := Nat.lt_of_lt_of_le h (by decide +kernel)
theorem dv_monic1 {d p : List Rat} (hp : ptrim p = p) (h : Dvp d p) : Dvp d (pmonic p) := by
 rcases trim_iff.1 hp with k | k
 . rw [k]; exact Dvp.zero d
 . exact h.trans (dv_monic k).1
theorem sf_alone : ∀ {ds : List Rat}, ds.Nodup -> ∃ V, SF (prodl 1 ds) [1] V ds
 | [], _ => ⟨[], SF.start one_ne⟩
 | r :: ds, h => by
   have n := List.nodup_cons.1 h
   obtain ⟨V, k⟩ := sf_alone n.2
   exact ⟨_, k.fresh n.1⟩
theorem sf_gcd {ds g : List Rat} (nd : ds.Nodup) (H : Gcd g (prodl 1 ds) (pderiv (prodl 1 ds))) : g = [1] := by
 obtain ⟨V, k⟩ := sf_alone nd
 have e : pderiv (prodl 1 ds) = V := by rw [k.d, pmul_one k.v]
 exact gcd_one rfl (V := V) (by rw [<- e]; exact H) k.apart
end Go.Proofs.YtmncfbfepdbioaaGreatDoor
