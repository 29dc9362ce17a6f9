/-
  Stage 3: the program's multiply. Stage 3: the program's compose. Stage 3: the program's clone of a number; compose beyond the greatest degree.
-/
import Derived.Lib.SliceRun
import Derived.Test.YtjbnclfbkccieaaGreatDoorPolI
namespace Go.Proofs.YtjbnclfbkccieaaGreatDoor
open Go.RowKit
/-- Place k of the row holds the first j terms of the sum. -/
def InR (w : World) (tl : List Rs) (a b : List Rat) (R0 : List RVal) (r k j : Nat) (wr : World) : Prop :=
  ∃ (R : List RVal) (qv : RVal) (v : Rat), Mem w wr (.arr r R :: tl) ∧ R = R0.set k qv ∧ R[k]? = some qv ∧ qv.v = some v ∧ stepsO (fun j r => thenO (mulO (coef a (k + 1 - b.length + j)) (coef b (k - (k + 1 - b.length + j)))) fun t => addO r t) 0 j = .ok v
set_option linter.unusedSimpArgs false in
set_option maxRecDepth 20000 in
set_option maxHeartbeats 4000000 in
theorem umul_big (A : Option Addr) (n c : Nat) (A' : Option Addr) (n' c' : Nat) (w : World) (hn : n ≤ 100000) (hn' : n' ≤ 100000) (h1 : 0 < n) (h2 : 0 < n') (hd : 64 < n - 1 + (n' - 1)) :
    Calls Tryz.prog 66 #[.slice A n c, .slice A' n' c'] w (PanW 2 w) := by
  have h3 : ((n : Int) == 0) = false := by rw [beq_eq_false_iff_ne]; omega
  have h4 : ((n' : Int) == 0) = false := by rw [beq_eq_false_iff_ne]; omega
  have h5 : (64 : Int) < (n : Int) - 1 + n' - 1 := by omega
  go_enter Tryz.func66, Tryz.ntmps66
  go_wp2_with fail
  refine (abandon_any 2 w).mono ?_
  rintro e w1 ⟨rfl, hb⟩
  have HB := hI hb
  clear hb
  go_wp2
  exact ⟨rfl, rfl, HB.out⟩
theorem umul_nil1 (A : Option Addr) (c : Nat) (A' : Option Addr) (n' c' : Nat) (w : World) : Calls Tryz.prog 66 #[.slice A 0 c, .slice A' n' c'] w (RetP [] w) := by
  go_enter Tryz.func66, Tryz.ntmps66
  go_wp2
  go_ret
  exact ⟨none, 0, 0, [], rfl, PSl.nil _, rfl, (fun _ e => by cases e), Below.refl _ _⟩
theorem umul_nil2 (A : Option Addr) (n c : Nat) (A' : Option Addr) (c' : Nat) (w : World) (h1 : 0 < n) : Calls Tryz.prog 66 #[.slice A n c, .slice A' 0 c'] w (RetP [] w) := by
  have h3 : ((n : Int) == 0) = false := by rw [beq_eq_false_iff_ne]; omega
  go_enter Tryz.func66, Tryz.ntmps66
  go_wp2
  go_ret
  exact ⟨none, 0, 0, [], rfl, PSl.nil _, rfl, (fun _ e => by cases e), Below.refl _ _⟩
set_option linter.unusedSimpArgs false in
set_option maxRecDepth 20000 in
set_option maxHeartbeats 4000000 in
theorem umul_go (A : Option Addr) (n c : Nat) (L : List RVal) (a : List Rat) (A' : Option Addr) (n' c' : Nat) (L' : List RVal) (b : List Rat) (w : World) (h : PSl w A n c L) (hv : Vs L a) (h' : PSl w A' n' c' L') (hv' : Vs L' b)
    (h1 : 0 < n) (h2 : 0 < n') (hd : n - 1 + (n' - 1) ≤ 64) :
    Calls Tryz.prog 66 #[.slice A n c, .slice A' n' c'] w (OutP (pmulO a b) w) := by
  have HV := hI (And.intro hv hv')
  have HN := hI (show n = a.length ∧ n' = b.length from ⟨by rw [← hv.len, h.len], by rw [← hv'.len, h'.len]⟩)
  obtain ⟨m, hm⟩ : ∃ m : Nat, n - 1 + (n' - 1) + 1 = m := ⟨_, rfl⟩
  have hm2 : (n : Int) - 1 + (n' : Int) - 1 + 1 = (m : Int) := by omega
  have hmk := fun w => make_rats w m (by omega)
  have M := hI (((((Mem.nil w).old (x := .pol A n c L) (by simp) h rfl).old (x := .pol A' n' c' L') (by simp [Rs.own]) h' rfl)).newRow m _ rfl)
  have HS := hI (show pmulO a b = listO (mulcO a b) m by unfold pmulO; rw [if_neg (by rw [← HN.out.1, ← HN.out.2]; omega), if_neg (by rw [← HN.out.1, ← HN.out.2]; omega), ← HN.out.1, ← HN.out.2, hm])
  have h3 : ((n : Int) == 0) = false := by rw [beq_eq_false_iff_ne]; omega
  have h4 : ((n' : Int) == 0) = false := by rw [beq_eq_false_iff_ne]; omega
  have h5 : (n : Int) - 1 + n' - 1 ≤ 64 := by omega
  clear h h' hv hv'
  go_enter Tryz.func66, Tryz.ntmps66
  go_wp2_with fail
  obtain ⟨r, hr⟩ : ∃ r : Nat, w.heap.size = r := ⟨_, rfl⟩
  have HRr := hI hr
  have H0 := hI (show RowR w [.pol A' n' c' L', .pol A n c L] (mulcO a b) m r 0 (w.alloc (.cells (nils m) 27)) from ⟨_, [], by rw [← hr]; exact M.out, Fill.nil m, rfl⟩)
  rw [hr]
  clear M hmk hr h3 h4 h5 hm2
  go_loopw [32] (fun v wr => ∃ k : Nat, v = .int .i64 k ∧ k ≤ m ∧ Hid (RowR w [.pol A' n' c' L', .pol A n c L] (mulcO a b) m r k wr)) (fun v _ => m - (intOf v).toNat)
  case atStart => exact ⟨0, rfl, Nat.zero_le _, H0⟩
  case round =>
    obtain ⟨k, rfl, hk, HR⟩ := hrel
    clear H0
    obtain ⟨R, l, HR⟩ := HR.out
    have HR := hI HR
    by_cases hlt : k < m
    · have HRl0 := hI (show k < R.length by rw [HR.out.2.1.1]; exact hlt)
      go_wp2_with fail
      refine (unumber_any 0 wr (by decide) (by decide)).mono ?_
      rintro e w1 ⟨q0, rfl, hq, hv, hb⟩
      have M1 := hI ((HR.out.1.on hb).addRat hq)
      have V0 := hI (show q0.v = some 0 by show rv q0.o q0.od = _; rw [hv]; rfl)
      clear hq hv hb
      obtain ⟨⟨c0, c1, c2, c3⟩, f0, f1, f2, f3⟩ := M1.out.rowAt 1 rfl (List.getElem?_eq_getElem HRl0.out)
      obtain ⟨lo, hlo⟩ : ∃ lo : Nat, k + 1 - n' = lo := ⟨_, rfl⟩
      have hmx : max (0 : Int) ((k : Int) - (n' : Int) + 1) = (lo : Int) := by omega
      obtain ⟨hi, hhi⟩ : ∃ hi : Nat, min k (n - 1) = hi := ⟨_, rfl⟩
      have hmn : min (k : Int) ((n : Int) - 1) = (hi : Int) := by omega
      have hle : lo ≤ hi ∧ hi < n ∧ hi ≤ k ∧ k < lo + n' := by omega
      have HC := hI (show min k (a.length - 1) + 1 - (k + 1 - b.length) = hi + 1 - lo by rw [← HN.out.1, ← HN.out.2, hhi, hlo])
      have HLo := hI (show k + 1 - b.length = lo by rw [← HN.out.2, hlo])
      clear hlo hhi
      go_wp2_with fail
      clear c0 c1 c2 c3 f0 f1 f2 f3
      generalize hU : World.setCell (World.setCell (World.setCell (World.setCell w1 _ _) _ _) _ _) _ _ = U
      have M2 := hI ((M1.out.putRowU 1 rfl HRl0.out (M1.out.rat 0 rfl) hU).drop 1)
      have H1 := hI (show InR w [.pol A' n' c' L', .pol A n c L] a b R r k 0 U from ⟨R.set k q0, q0, 0, M2.out, rfl, List.getElem?_set_self HRl0.out, V0.out, rfl⟩)
      clear hU M2 M1 V0
      go_loopw [8] (fun v wr => ∃ j : Nat, v = .int .i64 ((lo : Int) + (j : Int)) ∧ j ≤ hi + 1 - lo ∧ Hid (InR w [.pol A' n' c' L', .pol A n c L] a b R r k j wr)) (fun v _ => hi + 1 - (intOf v).toNat)
      case atStart => exact ⟨0, by simp, Nat.zero_le _, H1⟩
      case round =>
        obtain ⟨j, rfl, hj, HI⟩ := hrel
        clear H1
        obtain ⟨R1, qv, v, HI⟩ := HI.out
        have HI := hI HI
        have HRl := hI (show k < R1.length by rw [HI.out.2.1, List.length_set]; exact HRl0.out)
        by_cases hj2 : j < hi + 1 - lo
        · skip
          obtain ⟨ad, q1, p1, rfl, hq, hp1⟩ := (HI.out.1.pol 2 rfl).el (k := lo + j) (by omega)
          have HQ1 := hI hq
          clear hq
          obtain ⟨ad2, q2, p2, rfl, hq, hp2⟩ := (HI.out.1.pol 1 rfl).el (k := k - (lo + j)) (by omega)
          have HQ2 := hI hq
          clear hq
          obtain ⟨⟨c0, c1, c2, c3⟩, f0, f1, f2, f3⟩ := HI.out.1.rowAt 0 rfl HI.out.2.2.1
          have hi1 : IntKind.i64.wrap ((k : Int) - ((lo : Int) + (j : Int))) = ((k - (lo + j) : Nat) : Int) := by rw [IntWalk.i64_in _ (by omega)]; omega
          have hi2 : ((k - (lo + j) : Nat) : Int) < n' := by omega
          have hi3 : (lo : Int) + (j : Int) < n := by omega
          have hi4 : ((lo : Int) + (j : Int)).toNat = lo + j := by omega
          have hi5 : (0 : Int) ≤ (lo : Int) + (j : Int) := by omega
          clear c0 c1 c2 c3 f0 f1 f2 f3
          have HR0 := hI HI.out.2.2.1
          go_wp2_with fail
          refine anyS_start (fun w' => Mem w w' [.arr r R1, .pol (some ad2) n' c' L', .pol (some ad) n c L]) [19] 20 (by kernel_rfl) (by kernel_rfl) ?_
          have hS := (hI HI.out.1).out.drew
          refine anyS_take (v := ?_) 0 (some 54) rfl (by kernel_rfl) (by kernel_rfl) (fun _ _ _ h => h) (by rfl) ?_ hS ?_; rotate_left
          · (intro w' hSw; go_simp; try with_reducible rfl)
          try simp only [Act.put, List.setIfInBounds_toArray, List.set_cons_zero, List.set_cons_succ]
          refine anyS_take (v := ?_) 1 (some 55) rfl (by kernel_rfl) (by kernel_rfl) (fun _ _ _ h => h) (by rfl) ?_ hS ?_; rotate_left
          · (intro w' hSw; go_simp; try with_reducible rfl)
          try simp only [Act.put, List.setIfInBounds_toArray, List.set_cons_zero, List.set_cons_succ]
          refine anyS_take (v := ?_) 2 (some 56) rfl (by kernel_rfl) (by kernel_rfl) (fun _ _ _ h => h) (by rfl) ?_ hS ?_; rotate_left
          · (intro w' hSw; go_simp; try with_reducible rfl)
          try simp only [Act.put, List.setIfInBounds_toArray, List.set_cons_zero, List.set_cons_succ]
          refine anyS_take (v := ?_) 3 (some 57) rfl (by kernel_rfl) (by kernel_rfl) (fun _ _ _ h => h) (by rfl) ?_ hS ?_; rotate_left
          · (intro w' hSw; go_simp; try with_reducible rfl)
          try simp only [Act.put, List.setIfInBounds_toArray, List.set_cons_zero, List.set_cons_succ]
          refine anyS_take (v := ?_) 4 (some 58) rfl (by kernel_rfl) (by kernel_rfl) (fun _ _ _ h => h) (by rfl) ?_ hS ?_; rotate_left
          · (intro w' hSw; go_simp; try with_reducible rfl)
          try simp only [Act.put, List.setIfInBounds_toArray, List.set_cons_zero, List.set_cons_succ]
          refine anyS_take (v := ?_) 5 (some 59) rfl (by kernel_rfl) (by kernel_rfl) (fun _ _ _ h => h) (by rfl) ?_ hS ?_; rotate_left
          · (intro w' hSw; obtain ⟨⟨x0, x1, x2, x3⟩, _⟩ := hSw.rowAt 0 rfl HR0.out; go_simp; try with_reducible rfl)
          try simp only [Act.put, List.setIfInBounds_toArray, List.set_cons_zero, List.set_cons_succ]
          refine anyS_take (v := ?_) 6 (some 60) rfl (by kernel_rfl) (by kernel_rfl) (fun _ _ _ h => h) (by rfl) ?_ hS ?_; rotate_left
          · (intro w' hSw; go_simp; try with_reducible rfl)
          try simp only [Act.put, List.setIfInBounds_toArray, List.set_cons_zero, List.set_cons_succ]
          refine anyS_take (v := ?_) 7 (some 61) rfl (by kernel_rfl) (by kernel_rfl) (fun _ _ _ h => h) (by rfl) ?_ hS ?_; rotate_left
          · (intro w' hSw; go_simp; try with_reducible rfl)
          try simp only [Act.put, List.setIfInBounds_toArray, List.set_cons_zero, List.set_cons_succ]
          refine anyS_take (v := ?_) 8 (some 62) rfl (by kernel_rfl) (by kernel_rfl) (fun _ _ _ h => h) (by rfl) ?_ hS ?_; rotate_left
          · (intro w' hSw; go_simp; try with_reducible rfl)
          try simp only [Act.put, List.setIfInBounds_toArray, List.set_cons_zero, List.set_cons_succ]
          refine anyS_take (v := ?_) 9 (some 63) rfl (by kernel_rfl) (by kernel_rfl) (fun _ _ _ h => h) (by rfl) ?_ hS ?_; rotate_left
          · (intro w' hSw; obtain ⟨x0, x1, x2, x3⟩ := (hSw.pol 2 rfl).c4 rfl HQ1.out hp1; go_simp; try with_reducible rfl)
          try simp only [Act.put, List.setIfInBounds_toArray, List.set_cons_zero, List.set_cons_succ]
          refine anyS_take (v := ?_) 10 (some 64) rfl (by kernel_rfl) (by kernel_rfl) (fun _ _ _ h => h) (by rfl) ?_ hS ?_; rotate_left
          · (intro w' hSw; go_simp; try with_reducible rfl)
          try simp only [Act.put, List.setIfInBounds_toArray, List.set_cons_zero, List.set_cons_succ]
          refine anyS_take (v := ?_) 11 (some 65) rfl (by kernel_rfl) (by kernel_rfl) (fun _ _ _ h => h) (by rfl) ?_ hS ?_; rotate_left
          · (intro w' hSw; go_simp; try with_reducible rfl)
          try simp only [Act.put, List.setIfInBounds_toArray, List.set_cons_zero, List.set_cons_succ]
          refine anyS_take (v := ?_) 12 (some 66) rfl (by kernel_rfl) (by kernel_rfl) (fun _ _ _ h => h) (by rfl) ?_ hS ?_; rotate_left
          · (intro w' hSw; go_simp; try with_reducible rfl)
          try simp only [Act.put, List.setIfInBounds_toArray, List.set_cons_zero, List.set_cons_succ]
          refine anyS_take (v := ?_) 13 (some 67) rfl (by kernel_rfl) (by kernel_rfl) (fun _ _ _ h => h) (by rfl) ?_ hS ?_; rotate_left
          · (intro w' hSw; go_simp; try with_reducible rfl)
          try simp only [Act.put, List.setIfInBounds_toArray, List.set_cons_zero, List.set_cons_succ]
          refine anyS_take (v := ?_) 14 (some 68) rfl (by kernel_rfl) (by kernel_rfl) (fun _ _ _ h => h) (by rfl) ?_ hS ?_; rotate_left
          · (intro w' hSw; go_simp; try with_reducible rfl)
          try simp only [Act.put, List.setIfInBounds_toArray, List.set_cons_zero, List.set_cons_succ]
          refine anyS_take (v := ?_) 15 (some 69) rfl (by kernel_rfl) (by kernel_rfl) (fun _ _ _ h => h) (by rfl) ?_ hS ?_; rotate_left
          · (intro w' hSw; obtain ⟨x0, x1, x2, x3⟩ := (hSw.pol 1 rfl).c4 rfl HQ2.out hp2; go_simp; try with_reducible rfl)
          try simp only [Act.put, List.setIfInBounds_toArray, List.set_cons_zero, List.set_cons_succ]
          have M1 := hI hS
          clear hS
          refine anyS_one 16 (by kernel_rfl) rfl (by rfl) (fun KK hKK => ?_)
          go_simp
          have C := uproduct_any q1 q2 _ _ wr.drew ((M1.out.pol 2 rfl).ins q1 (List.mem_of_getElem? HQ1.out)) ((M1.out.pol 1 rfl).ins q2 (List.mem_of_getElem? HQ2.out)) (HV.out.1.at_ HQ1.out) (HV.out.2.at_ HQ2.out)
          rcases hz : mulO (coef a (lo + j)) (coef b (k - (lo + j))) with er | z
          · rw [hz] at C
            (with_reducible refine C.mono ?_)
            clear C
            rintro e wE ⟨rfl, hb⟩
            have HB := hI (M1.out.on hb).bel
            have HE := hI (HS.out.trans (listO_err hlt HR.out.2.2 (by show mulcO a b k = _; exact stepsO_err _ _ (show j + 1 ≤ min k (a.length - 1) + 1 - (k + 1 - b.length) by rw [HC.out]; exact hj2) (by rw [stepsO_succ, HI.out.2.2.2.2, HLo.out]; exact thenO_err hz _))))
            clear hb hz
            go_wp2
            exact ⟨rfl, by rw [HE.out]; exact ⟨rfl, HB.out⟩⟩
          · rw [hz] at C
            (with_reducible refine C.mono ?_)
            clear C
            rintro e w2 ⟨q3, rfl, hq, hv, hb⟩
            have V1 := hI (And.intro hv hz)
            have M2 := hI ((M1.out.on hb).addRat hq)
            clear hq hv hb hz M1
            refine hKK.out _ _ (Or.inr (M2.out.drop 1)) ?_
            clear hKK KK 
            try simp only [Act.put, List.setIfInBounds_toArray, List.set_cons_zero, List.set_cons_succ]
            refine anyS_one 17 (by kernel_rfl) rfl (by rfl) (fun KK hKK => ?_)
            go_simp
            have C := usum_any qv q3 v z w2 ((M2.out.arr 1 rfl).2 qv (List.mem_of_getElem? HR0.out)) (M2.out.rat 0 rfl) HI.out.2.2.2.1 V1.out.1
            rcases hz : addO v z with er | z2
            · rw [hz] at C
              (with_reducible refine C.mono ?_)
              clear C
              rintro e wE ⟨rfl, hb⟩
              have HB := hI (M2.out.on hb).bel
              have HE := hI (HS.out.trans (listO_err hlt HR.out.2.2 (by show mulcO a b k = _; exact stepsO_err _ _ (show j + 1 ≤ min k (a.length - 1) + 1 - (k + 1 - b.length) by rw [HC.out]; exact hj2) (by rw [stepsO_succ, HI.out.2.2.2.2, HLo.out]; exact by show thenO (mulO _ _) _ = _; rw [V1.out.2]; exact hz))))
              clear hb hz
              go_wp2
              exact ⟨rfl, by rw [HE.out]; exact ⟨rfl, HB.out⟩⟩
            · rw [hz] at C
              (with_reducible refine C.mono ?_)
              clear C
              rintro e w3 ⟨q4, rfl, hq, hv, hb⟩
              have V2 := hI (And.intro hv hz)
              have M3 := hI ((M2.out.on hb).addRat hq)
              clear hq hv hb hz M2
              refine hKK.out _ _ (Or.inr (M3.out.drop 2)) ?_
              clear hKK KK 
              try simp only [Act.put, List.setIfInBounds_toArray, List.set_cons_zero, List.set_cons_succ]
              obtain ⟨⟨c0, c1, c2, c3⟩, f0, f1, f2, f3⟩ := M3.out.rowAt 2 rfl HR0.out
              refine anyS_one 18 (by kernel_rfl) rfl (by rfl) (fun KK hKK => ?_)
              go_simp
              refine hKK.out _ _ (Or.inr (M3.out.drop 2)) ?_
              clear hKK KK 
              try simp only [Act.put, List.setIfInBounds_toArray, List.set_cons_zero, List.set_cons_succ]
              refine anyS_one 19 (by kernel_rfl) rfl (by rfl) (fun KK hKK => ?_)
              go_simp
              refine hKK.out _ _ (Or.inl rfl) ?_
              clear hKK KK c0 c1 c2 c3 f0 f1 f2 f3
              refine anyS_done (by kernel_rfl) ?_
              generalize hU : World.setCell (World.setCell (World.setCell (World.setCell w3 _ _) _ _) _ _) _ _ = U
              have M9 := hI ((M3.out.putRowU 2 rfl HRl.out (M3.out.rat 0 rfl) hU).drop 2)
              have HI2 := hI (show InR w [.pol (some ad2) n' c' L', .pol (some ad) n c L] a b R r k (j + 1) U from ⟨R1.set k q4, q4, z2, M9.out, by rw [HI.out.2.1, List.set_set], List.getElem?_set_self (by exact HRl.out), V2.out.1, by rw [stepsO_succ, HI.out.2.2.2.2, HLo.out]; show thenO (mulO _ _) _ = _; rw [V1.out.2]; exact V2.out.2⟩)
              clear hU M9 M3
              go_wp2
              go_roundw
              case rel => exact ⟨j + 1, by push_cast; go_num, by omega, HI2⟩
              case measure => simp [intOf]; omega
        · have hjm : j = hi + 1 - lo := by omega
          have HY := hI (show mulcO a b k = .ok v by have := HI.out.2.2.2.2; rw [hjm, ← HC.out] at this; exact this)
          have M3 := hI (show Mem w wr (.arr r (R.set k qv) :: [.pol A' n' c' L', .pol A n c L]) by have := HI.out.1; rw [HI.out.2.1] at this; exact this)
          have HR2 := hI (show RowR w [.pol A' n' c' L', .pol A n c L] (mulcO a b) m r (k + 1) wr from RowR.next M3.out HR.out.2.1 HR.out.2.2 hlt HI.out.2.2.2.1 HY.out)
          have ht : decide ((lo : Int) + (j : Int) ≤ (hi : Int)) = false := by simp; omega
          clear M3 HY
          go_wp2
          go_roundw
          case rel => exact ⟨k + 1, by go_num, by omega, HR2⟩
          case measure => simp [intOf]; omega
    · have hkm : k = m := by omega
      subst hkm
      have HP := hI (row_done HR.out.1 HR.out.2.1 HR.out.2.2 (by omega))
      have HE := hI (HS.out.trans HR.out.2.2)
      clear hlt hk
      go_wp2
      go_ret
      rw [HE.out]
      exact ⟨_, _, _, _, rfl, HP.out.1, HP.out.2, fresh_row HRr.out, HR.out.1.bel⟩
theorem umul_any (A : Option Addr) (n c : Nat) (L : List RVal) (a : List Rat) (A' : Option Addr) (n' c' : Nat) (L' : List RVal) (b : List Rat) (w : World) (h : PSl w A n c L) (hv : Vs L a) (h' : PSl w A' n' c' L') (hv' : Vs L' b)
    (hn : n ≤ 100000) (hn' : n' ≤ 100000) : Calls Tryz.prog 66 #[.slice A n c, .slice A' n' c'] w (OutP (pmulO a b) w) := by
  have e1 : a.length = n := by rw [← hv.len, h.len]
  have e2 : b.length = n' := by rw [← hv'.len, h'.len]
  rcases Nat.eq_zero_or_pos n with h0 | h0
  · subst h0
    rw [show pmulO a b = .ok [] by unfold pmulO; rw [if_pos (Or.inl e1)]]
    exact umul_nil1 A c A' n' c' w
  · rcases Nat.eq_zero_or_pos n' with h1 | h1
    · subst h1
      rw [show pmulO a b = .ok [] by unfold pmulO; rw [if_pos (Or.inr e2)]]
      exact umul_nil2 A n c A' c' w h0
    · by_cases hd : n - 1 + (n' - 1) ≤ 64
      · exact umul_go A n c L a A' n' c' L' b w h hv h' hv' h0 h1 hd
      · rw [show pmulO a b = .error 2 by unfold pmulO; rw [if_neg (by omega), if_pos (by omega)]]
        exact umul_big A n c A' n' c' w hn hn' h0 h1 (by omega)
theorem ptrim_le : ∀ p : List Rat, (ptrim p).length ≤ p.length
  | [] => Nat.le_refl _
  | a :: p => by
    have ih := ptrim_le p
    show (match ptrim p with | [] => if a.num = 0 then [] else [a] | b :: q => a :: b :: q).length ≤ p.length + 1
    rcases hp : ptrim p with _ | ⟨b, q⟩
    · by_cases h : a.num = 0
      · simp [h]
      · simp [h]
    · rw [hp] at ih
      show (b :: q).length + 1 ≤ _
      omega
end Go.Proofs.YtjbnclfbkccieaaGreatDoor
namespace Go.Proofs.YtjbnclfbkccieaaGreatDoor
open Go.RowKit
end Go.Proofs.YtjbnclfbkccieaaGreatDoor
namespace Go.Proofs.YtjbnclfbkccieaaGreatDoor
open Go.RowKit
theorem RVal.In.nm {q : RVal} {w : World} (h : q.In w) : Sl w w.heap.size q.A q.n q.c q.xs := h.1
theorem RVal.In.dn {q : RVal} {w : World} (h : q.In w) : Sl w w.heap.size q.Ad q.nd q.cd q.ys := h.2
/-- A copy of limbs. -/
def RetS (n : Nat) (xs : List Nat) (w : World) (e : Ending) (w' : World) : Prop := ∃ (A : Option Addr) (c : Nat), e = .returned (.slice A n c) ∧ Sl w' w'.heap.size A n c xs ∧ Below w.heap.size w w'
set_option maxRecDepth 20000 in
theorem sclone_any (A : Option Addr) (n c : Nat) (xs : List Nat) (w : World) (h : Sl w w.heap.size A n c xs) : Calls Tryz.prog 193 #[.slice A n c] w (RetS n xs w) := by
  have hnil := fun (w : World) => Lib.run_eql_slice_nil (P := Tryz.prog) w 23 44 A n c 0 0 Tryz.underlying23
  rcases A with _ | ad
  · have hn : n = 0 := by have := h.nil_ rfl; have := h.cap; omega
    subst hn
    have HS := hI h
    clear h
    go_enter Tryz.func193, Tryz.ntmps193
    go_wp2
    go_ret
    have e : xs = [] := List.eq_nil_of_length_eq_zero HS.out.len
    subst e
    exact ⟨none, 0, rfl, Sl.nil _ _, Below.refl _ _⟩
  · have HS := hI (h.on (below_new w (.cells #[] 44)))
    have HB := hI (Blk.new w 44 #[])
    clear h
    go_enter Tryz.func193, Tryz.ntmps193
    go_wp2_with (at_builtin; refine copy_app rfl _ _ rfl w.heap.size n c _ _ xs rfl HB.out rfl HS.out ?_; intro A' c' w' hs' hg')
    go_ret
    exact ⟨A', c', rfl, hs', (below_new w _).grown hg' (by simp) (fun k hk => by injection hk with hk; subst hk; exact Nat.le_refl _)⟩
def RetC1 (g : Bool) (n : Nat) (xs : List Nat) (w : World) (e : Ending) (w' : World) : Prop := ∃ (A : Option Addr) (c : Nat), e = .returned (.agg #[.bool g, .slice A n c]) ∧ Sl w' w'.heap.size A n c xs ∧ Below w.heap.size w w'
theorem noU2 (g : Bool) (A : Option Addr) (n c : Nat) : NoU #[.bool g, .slice A n c] := by
  intro i v hv x e
  subst e
  rw [List.getElem?_toArray] at hv
  have := List.mem_of_getElem? hv
  simp at this
set_option linter.unusedSimpArgs false in
set_option maxRecDepth 20000 in
set_option maxHeartbeats 4000000 in
theorem ucloneInt_any (g : Bool) (A : Option Addr) (n c : Nat) (xs : List Nat) (w : World) (h : Sl w w.heap.size A n c xs) : Calls Tryz.prog 167 #[.agg #[.bool g, .slice A n c]] w (RetC1 g n xs w) := by
  have M := hI ((((Mem.nil w).old (x := .rat ⟨g, A, n, c, xs, false, none, 0, 0, []⟩) (by simp) ⟨h, Sl.nil _ _⟩ rfl).newCel (t := 25) (noU2 g A n c) _ rfl).newCel (t := 25) (noU2 false none 0 0) (w.heap.size + 1) (by simp))
  clear h
  go_enter Tryz.func167, Tryz.ntmps167
  go_wp2_with fail
  generalize hW : World.alloc (World.alloc w _) _ = V at *
  clear hW
  refine anyS_start (fun w' => Mem w w' [.cel (w.heap.size + 1) 25 #[.bool false, .slice none 0 0], .cel w.heap.size 25 #[.bool g, .slice A n c], .rat ⟨g, A, n, c, xs, false, none, 0, 0, []⟩]) [6] 7 (by kernel_rfl) (by kernel_rfl) ?_
  have hS := M.out.drew
  refine anyS_take (v := ?_) 0 (some 3) rfl (by kernel_rfl) (by kernel_rfl) (fun _ _ _ h => h) (by rfl) ?_ hS ?_; rotate_left
  · (intro w' hSw; go_simp; try with_reducible rfl)
  try simp only [Act.put, List.setIfInBounds_toArray, List.set_cons_zero, List.set_cons_succ]
  refine anyS_take (v := ?_) 1 (some 4) rfl (by kernel_rfl) (by kernel_rfl) (fun _ _ _ h => h) (by rfl) ?_ hS ?_; rotate_left
  · (intro w' hSw; have x0 := ((hSw.cel 1 rfl).1.cell 0); have x1 := ((hSw.cel 1 rfl).1.cell 1); simp only [List.getElem?_toArray, List.getElem?_cons_zero, List.getElem?_cons_succ] at x0 x1; go_simp; try with_reducible rfl)
  try simp only [Act.put, List.setIfInBounds_toArray, List.set_cons_zero, List.set_cons_succ]
  refine anyS_take (v := ?_) 2 (some 5) rfl (by kernel_rfl) (by kernel_rfl) (fun _ _ _ h => h) (by rfl) ?_ hS ?_; rotate_left
  · (intro w' hSw; go_simp; try with_reducible rfl)
  try simp only [Act.put, List.setIfInBounds_toArray, List.set_cons_zero, List.set_cons_succ]
  refine anyS_take (v := ?_) 3 (some 6) rfl (by kernel_rfl) (by kernel_rfl) (fun _ _ _ h => h) (by rfl) ?_ hS ?_; rotate_left
  · (intro w' hSw; have x0 := ((hSw.cel 1 rfl).1.cell 0); have x1 := ((hSw.cel 1 rfl).1.cell 1); simp only [List.getElem?_toArray, List.getElem?_cons_zero, List.getElem?_cons_succ] at x0 x1; go_simp; try with_reducible rfl)
  try simp only [Act.put, List.setIfInBounds_toArray, List.set_cons_zero, List.set_cons_succ]
  have M1 := hI hS
  clear hS
  refine anyS_one 4 (by kernel_rfl) rfl (by rfl) (fun KK hKK => ?_)
  go_simp
  (with_reducible refine (sclone_any A n c xs V.drew (M1.out.rat 2 rfl).nm).mono ?_)
  rintro e w1 ⟨A1, c1, rfl, hs, hb⟩
  have M2 := hI (M1.out.on hb)
  have S1 := hI hs
  clear hs hb M1
  refine hKK.out _ _ (Or.inr M2.out) ?_
  clear hKK KK 
  try simp only [Act.put, List.setIfInBounds_toArray, List.set_cons_zero, List.set_cons_succ]
  refine anyS_one 5 (by kernel_rfl) rfl (by rfl) (fun KK hKK => ?_)
  go_simp
  refine hKK.out _ _ (Or.inr M2.out) ?_
  clear hKK KK 
  try simp only [Act.put, List.setIfInBounds_toArray, List.set_cons_zero, List.set_cons_succ]
  have c0 := ((M2.out.cel 0 rfl).1.cell 0)
  have c1' := ((M2.out.cel 0 rfl).1.cell 1)
  have f0 := (M2.out.cel 0 rfl).1.frozen 0
  have f1 := (M2.out.cel 0 rfl).1.frozen 1
  simp only [List.getElem?_toArray, List.getElem?_cons_zero, List.getElem?_cons_succ] at c0 c1'
  refine anyS_one 6 (by kernel_rfl) rfl (by rfl) (fun KK hKK => ?_)
  go_simp
  refine hKK.out _ _ (Or.inl rfl) ?_
  clear hKK KK c0 c1' f0 f1
  refine anyS_done (by kernel_rfl) ?_
  generalize hU : World.setCell (World.setCell w1 _ _) _ _ = U
  have M3 : Hid (Mem w U _) := hI (hU ▸ (((M2.out.addRat (q := ⟨g, A1, n, c1, xs, false, none, 0, 0, []⟩) ⟨S1.out, Sl.nil _ _⟩).putCel 1 rfl 0 (by decide) (nb g)).putCel 1 rfl 1 (by simp) (ns A1 n c1)))
  clear hU M2
  have j0 := ((M3.out.cel 1 rfl).1.cell 0)
  have j1 := ((M3.out.cel 1 rfl).1.cell 1)
  simp at j0 j1
  go_wp2
  refine bodyPost_ret (v := .agg #[.bool g, .slice A1 n c1]) (by simp [results, Tryz.results167, go_sem, j0, j1]) rfl ?_
  exact ⟨A1, c1, rfl, (M3.out.rat 0 rfl).nm, M3.out.bel⟩
set_option linter.unusedSimpArgs false in
set_option maxRecDepth 20000 in
set_option maxHeartbeats 4000000 in
theorem uclone_any (q : RVal) (x : Rat) (w : World) (h : q.In w) (hx : q.v = some x) : Calls Tryz.prog 131 #[.agg #[.bool q.g, .slice q.A q.n q.c, .bool q.gd, .slice q.Ad q.nd q.cd]] w (RetW x w) := by
  have M := hI ((((Mem.nil w).old (x := .rat q) (by simp) h rfl).newBox h _ rfl).newNil (w.heap.size + 1) (by simp))
  have HV := hI hx
  clear h hx
  go_enter Tryz.func131, Tryz.ntmps131
  go_wp2_with fail
  generalize hW : World.alloc (World.alloc w _) _ = V at *
  clear hW
  refine anyS_start (fun w' => Mem w w' [.box (w.heap.size + 1) RVal.nil, .box w.heap.size q, .rat q]) [7] 8 (by kernel_rfl) (by kernel_rfl) ?_
  have hS := M.out.drew
  refine anyS_take (v := ?_) 0 (some 3) rfl (by kernel_rfl) (by kernel_rfl) (fun _ _ _ h => h) (by rfl) ?_ hS ?_; rotate_left
  · (intro w' hSw; go_simp; try with_reducible rfl)
  try simp only [Act.put, List.setIfInBounds_toArray, List.set_cons_zero, List.set_cons_succ]
  refine anyS_take (v := ?_) 1 (some 4) rfl (by kernel_rfl) (by kernel_rfl) (fun _ _ _ h => h) (by rfl) ?_ hS ?_; rotate_left
  · (intro w' hSw; obtain ⟨x0, x1, x2, x3⟩ := (hSw.box 1 rfl).cs; go_simp; try with_reducible rfl)
  try simp only [Act.put, List.setIfInBounds_toArray, List.set_cons_zero, List.set_cons_succ]
  refine anyS_take (v := ?_) 3 (some 6) rfl (by kernel_rfl) (by kernel_rfl) (fun _ _ _ h => h) (by rfl) ?_ hS ?_; rotate_left
  · (intro w' hSw; go_simp; try with_reducible rfl)
  try simp only [Act.put, List.setIfInBounds_toArray, List.set_cons_zero, List.set_cons_succ]
  refine anyS_take (v := ?_) 4 (some 7) rfl (by kernel_rfl) (by kernel_rfl) (fun _ _ _ h => h) (by rfl) ?_ hS ?_; rotate_left
  · (intro w' hSw; obtain ⟨x0, x1, x2, x3⟩ := (hSw.box 1 rfl).cs; go_simp; try with_reducible rfl)
  try simp only [Act.put, List.setIfInBounds_toArray, List.set_cons_zero, List.set_cons_succ]
  have M1 := hI hS
  clear hS
  refine anyS_one 2 (by kernel_rfl) rfl (by rfl) (fun KK hKK => ?_)
  go_simp
  (with_reducible refine (ucloneInt_any q.g q.A q.n q.c q.xs V.drew (M1.out.rat 2 rfl).nm).mono ?_)
  rintro e w1 ⟨A1, c1, rfl, hs, hb⟩
  have M2 := hI (M1.out.on hb)
  have S1 := hI hs
  clear hs hb M1
  refine hKK.out _ _ (Or.inr M2.out) ?_
  clear hKK KK 
  try simp only [Act.put, List.setIfInBounds_toArray, List.set_cons_zero, List.set_cons_succ]
  refine anyS_one 5 (by kernel_rfl) rfl (by rfl) (fun KK hKK => ?_)
  go_simp
  (with_reducible refine (ucloneInt_any q.gd q.Ad q.nd q.cd q.ys w1 (M2.out.rat 2 rfl).dn).mono ?_)
  rintro e w2 ⟨A2, c2, rfl, hs, hb⟩
  have M3 := hI ((M2.out.on hb).addRat (q := ⟨q.g, A1, q.n, c1, q.xs, q.gd, A2, q.nd, c2, q.ys⟩) ⟨S1.out.on hb, hs⟩)
  clear hs hb M2
  refine hKK.out _ _ (Or.inr (M3.out.drop 1)) ?_
  clear hKK KK 
  try simp only [Act.put, List.setIfInBounds_toArray, List.set_cons_zero, List.set_cons_succ]
  refine anyS_one 6 (by kernel_rfl) rfl (by rfl) (fun KK hKK => ?_)
  go_simp
  refine hKK.out _ _ (Or.inr (M3.out.drop 1)) ?_
  clear hKK KK 
  try simp only [Act.put, List.setIfInBounds_toArray, List.set_cons_zero, List.set_cons_succ]
  obtain ⟨c0, c1', c2', c3'⟩ := (M3.out.box 1 rfl).cs
  obtain ⟨f0, f1, f2, f3⟩ := (M3.out.box 1 rfl).fs
  refine anyS_one 7 (by kernel_rfl) rfl (by rfl) (fun KK hKK => ?_)
  go_simp
  refine hKK.out _ _ (Or.inl rfl) ?_
  clear hKK KK c0 c1' c2' c3' f0 f1 f2 f3
  refine anyS_done (by kernel_rfl) ?_
  generalize hU : World.setCell (World.setCell (World.setCell (World.setCell w2 _ _) _ _) _ _) _ _ = U
  have M4 := hI (M3.out.putU 1 rfl (M3.out.rat 0 rfl) hU)
  clear hU M3
  obtain ⟨j0, j1, j2, j3⟩ := (M4.out.box 1 rfl).cs
  dsimp only at j0 j1 j2 j3
  go_wp2
  refine bodyPost_ret (v := .agg #[.bool q.g, .slice A1 q.n c1, .bool q.gd, .slice A2 q.nd c2]) (by simp [results, Tryz.results131, go_sem, j0, j1, j2, j3]) rfl ?_
  exact ⟨⟨q.g, A1, q.n, c1, q.xs, q.gd, A2, q.nd, c2, q.ys⟩, rfl, (M4.out.box 1 rfl).sl, HV.out, M4.out.bel⟩
end Go.Proofs.YtjbnclfbkccieaaGreatDoor
