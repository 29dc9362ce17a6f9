/-
  Stage 3: the program's resultant. Stage 3: the program's Check.
-/
import Derived.Test.YtjbnclfbkccieaaGreatDoorPolN
namespace Go.Proofs.YtjbnclfbkccieaaGreatDoor
open Go.RowKit
theorem resO_nil {g : Nat} {a b : List Rat} (h : a.length = 0 ∨ b.length = 0) : resO (g + 1) a b = .ok 0 := by
  show (if a.length = 0 ∨ b.length = 0 then _ else _) = _
  rw [if_pos h]
theorem resO_one {g : Nat} {a b : List Rat} (h : a.length ≠ 0) (h' : b.length = 1) : resO (g + 1) a b = powO (coef b 0) (a.length - 1) := by
  show (if a.length = 0 ∨ b.length = 0 then _ else if b.length - 1 = 0 then _ else _) = _
  rw [if_neg (by omega), if_pos (by omega)]
theorem resO_swap {g : Nat} {a b : List Rat} (h : a.length ≠ 0) (h' : 1 < b.length) (hl : a.length < b.length) : resO (g + 1) a b = thenO (resO g b a) fun v => if (a.length - 1) * (b.length - 1) % 2 = 1 then subO 0 v else .ok v := by
  show (if a.length = 0 ∨ b.length = 0 then _ else if b.length - 1 = 0 then _ else if a.length - 1 < b.length - 1 then _ else _) = _
  rw [if_neg (by omega), if_neg (by omega), if_pos (by omega)]
theorem resO_div {g : Nat} {a b : List Rat} (h' : 1 < b.length) (hl : b.length ≤ a.length) : resO (g + 1) a b = thenO (pdivO a b) fun d =>
      if d.2.length = 0 then .ok 0 else
      thenO (powO (coef b (b.length - 1)) (a.length - 1 - (d.2.length - 1))) fun x => thenO (resO g b d.2) fun y => thenO (mulO x y) fun v =>
      if (a.length - 1) * (b.length - 1) % 2 = 1 then subO 0 v else .ok v := by
  show (if a.length = 0 ∨ b.length = 0 then _ else if b.length - 1 = 0 then _ else if a.length - 1 < b.length - 1 then _ else _) = _
  rw [if_neg (by omega), if_neg (by omega), if_neg (by omega)]
set_option linter.unusedSimpArgs false in
set_option linter.unusedVariables false in
set_option maxRecDepth 20000 in
set_option maxHeartbeats 4000000 in
theorem ures_nil1 (A : Option Addr) (n c : Nat) (L : List RVal) (a : List Rat) (A' : Option Addr) (n' c' : Nat) (L' : List RVal) (b : List Rat) (w : World) (h : PSl w A n c L) (hv : Vs L a) (h' : PSl w A' n' c' L') (hv' : Vs L' b) (g : Nat) (hn : n ≤ 1000) (hn' : n' ≤ 1000) (h1 : n = 0) :
    Calls Tryz.prog 95 #[.slice A n c, .slice A' n' c'] w (OutW (resO (g + 1) a b) w) := by
  have HV := hI (And.intro hv hv')
  have HN := hI (show n = a.length ∧ n' = b.length from ⟨by rw [← hv.len, h.len], by rw [← hv'.len, h'.len]⟩)
  have M := hI ((((Mem.nil w).old (x := .pol A n c L) (by simp) h rfl).old (x := .pol A' n' c' L') (by simp [Rs.own]) h' rfl).newNil _ rfl)
  have HS := hI (show resO (g + 1) a b = .ok 0 from resO_nil (by rw [← HN.out.1, ← HN.out.2]; omega))
  have h3 : ((n : Int) == 0) = true := by rw [beq_iff_eq]; omega
  have HH := hI h1
  clear h1
  clear h h' hv hv'
  go_enter Tryz.func95, Tryz.ntmps95
  go_wp2_with fail
  generalize hW : World.alloc w _ = V at *
  clear hW
  (with_reducible refine (unumber_any 0 V (by decide) (by decide)).mono ?_)
  rintro e w1 ⟨q1, rfl, hq, hv, hb⟩
  have M1 := hI ((M.out.on hb).addRat hq)
  have V1 := hI hv
  clear hq hv hb 
  obtain ⟨c0, c1, c2, c3⟩ := (M1.out.box 1 rfl).cs
  obtain ⟨f0, f1, f2, f3⟩ := (M1.out.box 1 rfl).fs
  go_wp2
  clear c0 c1 c2 c3 f0 f1 f2 f3
  generalize hU : World.setCell (World.setCell (World.setCell (World.setCell w1 _ _) _ _) _ _) _ _ = U
  have M9 := hI (M1.out.putU 1 rfl (M1.out.rat 0 rfl) hU)
  clear hU
  obtain ⟨j0, j1, j2, j3⟩ := (M9.out.box 1 rfl).cs
  refine bodyPost_ret (v := .agg #[.bool q1.g, .slice q1.A q1.n q1.c, .bool q1.gd, .slice q1.Ad q1.nd q1.cd]) (by simp [results, Tryz.results95, go_sem, j0, j1, j2, j3]) rfl ?_
  rw [HS.out]
  exact ⟨q1, rfl, (M9.out.box 1 rfl).sl, (by show rv q1.o q1.od = _; rw [V1.out]; rfl), M9.out.bel⟩
set_option linter.unusedSimpArgs false in
set_option linter.unusedVariables false in
set_option maxRecDepth 20000 in
set_option maxHeartbeats 4000000 in
theorem ures_nil2 (A : Option Addr) (n c : Nat) (L : List RVal) (a : List Rat) (A' : Option Addr) (n' c' : Nat) (L' : List RVal) (b : List Rat) (w : World) (h : PSl w A n c L) (hv : Vs L a) (h' : PSl w A' n' c' L') (hv' : Vs L' b) (g : Nat) (hn : n ≤ 1000) (hn' : n' ≤ 1000) (h1 : 0 < n) (h2 : n' = 0) :
    Calls Tryz.prog 95 #[.slice A n c, .slice A' n' c'] w (OutW (resO (g + 1) a b) w) := by
  have HV := hI (And.intro hv hv')
  have HN := hI (show n = a.length ∧ n' = b.length from ⟨by rw [← hv.len, h.len], by rw [← hv'.len, h'.len]⟩)
  have M := hI ((((Mem.nil w).old (x := .pol A n c L) (by simp) h rfl).old (x := .pol A' n' c' L') (by simp [Rs.own]) h' rfl).newNil _ rfl)
  have HS := hI (show resO (g + 1) a b = .ok 0 from resO_nil (by rw [← HN.out.1, ← HN.out.2]; omega))
  have h3 : ((n : Int) == 0) = false := by rw [beq_eq_false_iff_ne]; omega
  have h4 : ((n' : Int) == 0) = true := by rw [beq_iff_eq]; omega
  have HH := hI h2
  clear h2
  clear h h' hv hv'
  go_enter Tryz.func95, Tryz.ntmps95
  go_wp2_with fail
  generalize hW : World.alloc w _ = V at *
  clear hW
  (with_reducible refine (unumber_any 0 V (by decide) (by decide)).mono ?_)
  rintro e w1 ⟨q1, rfl, hq, hv, hb⟩
  have M1 := hI ((M.out.on hb).addRat hq)
  have V1 := hI hv
  clear hq hv hb 
  obtain ⟨c0, c1, c2, c3⟩ := (M1.out.box 1 rfl).cs
  obtain ⟨f0, f1, f2, f3⟩ := (M1.out.box 1 rfl).fs
  go_wp2
  clear c0 c1 c2 c3 f0 f1 f2 f3
  generalize hU : World.setCell (World.setCell (World.setCell (World.setCell w1 _ _) _ _) _ _) _ _ = U
  have M9 := hI (M1.out.putU 1 rfl (M1.out.rat 0 rfl) hU)
  clear hU
  obtain ⟨j0, j1, j2, j3⟩ := (M9.out.box 1 rfl).cs
  refine bodyPost_ret (v := .agg #[.bool q1.g, .slice q1.A q1.n q1.c, .bool q1.gd, .slice q1.Ad q1.nd q1.cd]) (by simp [results, Tryz.results95, go_sem, j0, j1, j2, j3]) rfl ?_
  rw [HS.out]
  exact ⟨q1, rfl, (M9.out.box 1 rfl).sl, (by show rv q1.o q1.od = _; rw [V1.out]; rfl), M9.out.bel⟩
set_option linter.unusedSimpArgs false in
set_option linter.unusedVariables false in
set_option maxRecDepth 20000 in
set_option maxHeartbeats 4000000 in
theorem ures_one (A : Option Addr) (n c : Nat) (L : List RVal) (a : List Rat) (A' : Option Addr) (n' c' : Nat) (L' : List RVal) (b : List Rat) (w : World) (h : PSl w A n c L) (hv : Vs L a) (h' : PSl w A' n' c' L') (hv' : Vs L' b) (g : Nat) (hn : n ≤ 1000) (hn' : n' ≤ 1000) (h1 : 0 < n) (h2 : n' = 1) :
    Calls Tryz.prog 95 #[.slice A n c, .slice A' n' c'] w (OutW (resO (g + 1) a b) w) := by
  have HV := hI (And.intro hv hv')
  have HN := hI (show n = a.length ∧ n' = b.length from ⟨by rw [← hv.len, h.len], by rw [← hv'.len, h'.len]⟩)
  have M := hI ((((Mem.nil w).old (x := .pol A n c L) (by simp) h rfl).old (x := .pol A' n' c' L') (by simp [Rs.own]) h' rfl).newNil _ rfl)
  have HS := hI (show resO (g + 1) a b = powO (coef b 0) (n - 1) by rw [HN.out.1]; exact resO_one (by rw [← HN.out.1]; omega) (by rw [← HN.out.2]; omega))
  have h3 : ((n : Int) == 0) = false := by rw [beq_eq_false_iff_ne]; omega
  have h4 : ((n' : Int) == 0) = false := by rw [beq_eq_false_iff_ne]; omega
  have h5 : (((n' : Int) - 1) == 0) = true := by rw [beq_iff_eq]; omega
  have h6 : (n : Int) - 1 = ((n - 1 : Nat) : Int) := by omega
  have h7 : 0 < n' := by omega
  obtain ⟨ad, q, p, rfl, hq, hp⟩ := h'.el (k := 0) h7
  rw [Nat.zero_mul, show ad.add 0 = ad from rfl] at hp
  subst hp
  have HQ := hI hq
  obtain ⟨x0, x1, x2, x3⟩ := (M.out.pol 1 rfl).c4 (p := ad) (k := 0) rfl hq rfl
  have HH := hI h2
  clear h h' hv hv' hq h2
  go_enter Tryz.func95, Tryz.ntmps95
  go_wp2_with fail
  generalize hW : World.alloc w _ = V at *
  clear hW x0 x1 x2 x3
  have C := upow_any q (coef b 0) (n - 1) V ((M.out.pol 1 rfl).ins q (List.mem_of_getElem? HQ.out)) (HV.out.2.at_ HQ.out) (by omega)
  rcases hz : powO (coef b 0) (n - 1) with er | z
  · rw [hz] at C
    (with_reducible refine C.mono ?_)
    clear C
    rintro e wE ⟨rfl, hb⟩
    have HB := hI (M.out.on hb).bel
    have HE := hI (HS.out.trans hz)
    clear hb hz
    go_wp2
    exact ⟨rfl, by rw [HE.out]; exact ⟨rfl, HB.out⟩⟩
  · rw [hz] at C
    (with_reducible refine C.mono ?_)
    clear C
    rintro e w1 ⟨q1, rfl, hq, hv, hb⟩
    have V1 := hI (And.intro hv hz)
    have M1 := hI ((M.out.on hb).addRat hq)
    clear hq hv hb hz 
    obtain ⟨c0, c1, c2, c3⟩ := (M1.out.box 1 rfl).cs
    obtain ⟨f0, f1, f2, f3⟩ := (M1.out.box 1 rfl).fs
    go_wp2
    clear c0 c1 c2 c3 f0 f1 f2 f3
    generalize hU : World.setCell (World.setCell (World.setCell (World.setCell w1 _ _) _ _) _ _) _ _ = U
    have M9 := hI (M1.out.putU 1 rfl (M1.out.rat 0 rfl) hU)
    clear hU
    obtain ⟨j0, j1, j2, j3⟩ := (M9.out.box 1 rfl).cs
    refine bodyPost_ret (v := .agg #[.bool q1.g, .slice q1.A q1.n q1.c, .bool q1.gd, .slice q1.Ad q1.nd q1.cd]) (by simp [results, Tryz.results95, go_sem, j0, j1, j2, j3]) rfl ?_
    rw [HS.out, V1.out.2]
    exact ⟨q1, rfl, (M9.out.box 1 rfl).sl, V1.out.1, M9.out.bel⟩
set_option linter.unusedSimpArgs false in
set_option linter.unusedVariables false in
set_option maxRecDepth 20000 in
set_option maxHeartbeats 4000000 in
theorem ures_swap (A : Option Addr) (n c : Nat) (L : List RVal) (a : List Rat) (A' : Option Addr) (n' c' : Nat) (L' : List RVal) (b : List Rat) (w : World) (h : PSl w A n c L) (hv : Vs L a) (h' : PSl w A' n' c' L') (hv' : Vs L' b) (g : Nat) (hn : n ≤ 1000) (hn' : n' ≤ 1000) (h1 : 0 < n) (h2 : n < n') (ih : ∀ W : World, PSl W A' n' c' L' → PSl W A n c L → Calls Tryz.prog 95 #[.slice A' n' c', .slice A n c] W (OutW (resO g b a) W)) :
    Calls Tryz.prog 95 #[.slice A n c, .slice A' n' c'] w (OutW (resO (g + 1) a b) w) := by
  have M := hI (((((Mem.nil w).old (x := .pol A n c L) (by simp) h rfl).old (x := .pol A' n' c' L') (by simp [Rs.own]) h' rfl).newNil _ rfl).newNil (w.heap.size + 1) (by simp))
  have HV := hI (And.intro hv hv')
  have HN := hI (show n = a.length ∧ n' = b.length from ⟨by rw [← hv.len, h.len], by rw [← hv'.len, h'.len]⟩)
  have HS := hI (show resO (g + 1) a b = _ from resO_swap (by rw [← HN.out.1]; omega) (by rw [← HN.out.2]; omega) (by rw [← HN.out.1, ← HN.out.2]; omega))
  obtain ⟨P, hP⟩ : ∃ P : Nat, (n - 1) * (n' - 1) = P := ⟨_, rfl⟩
  have HPP := hI (show (a.length - 1) * (b.length - 1) = P by rw [← HN.out.1, ← HN.out.2]; exact hP)
  have e2 : ((n : Int) - 1) * ((n' : Int) - 1) = (P : Int) := by rw [← hP, Int.natCast_mul, Int.natCast_sub (by omega), Int.natCast_sub (by omega)]; rfl
  have hPb : P ≤ 1000 * 1000 := by rw [← hP]; exact Nat.mul_le_mul (by omega) (by omega)
  have e3 : wrap64 (((n : Int) - 1) * ((n' : Int) - 1)) = (P : Int) := by rw [e2]; exact IntWalk.wrap64_in _ ⟨by omega, by omega⟩
  have h3 : ((n : Int) == 0) = false := by rw [beq_eq_false_iff_ne]; omega
  have h4 : ((n' : Int) == 0) = false := by rw [beq_eq_false_iff_ne]; omega
  have h5 : (((n' : Int) - 1) == 0) = false := by rw [beq_eq_false_iff_ne]; omega
  clear h h' hv hv' hP
  go_enter Tryz.func95, Tryz.ntmps95
  go_wp2_with fail
  generalize hW : World.alloc (World.alloc w _) _ = V at *
  clear hW
  have C := ih V (M.out.pol 2 rfl) (M.out.pol 3 rfl)
  rcases hz : resO g b a with er | v
  · rw [hz] at C
    (with_reducible refine C.mono ?_)
    clear C
    rintro e wE ⟨rfl, hb⟩
    have HB := hI (M.out.on hb).bel
    have HE := hI (show resO (g + 1) a b = .error er from HS.out.trans (by rw [hz]; rfl))
    clear hb hz
    go_wp2
    exact ⟨rfl, by rw [HE.out]; exact ⟨rfl, HB.out⟩⟩
  · rw [hz] at C
    (with_reducible refine C.mono ?_)
    clear C
    rintro e w1 ⟨qv, rfl, hq, hv, hb⟩
    have V1 := hI hv
    have HSv := hI (show resO (g + 1) a b = (if (a.length - 1) * (b.length - 1) % 2 = 1 then subO 0 v else .ok v) from HS.out.trans (by rw [hz]; rfl))
    have M1 := hI ((M.out.on hb).addRat hq)
    clear hq hv hb hz
    obtain ⟨c0, c1, c2, c3⟩ := (M1.out.box 1 rfl).cs
    obtain ⟨f0, f1, f2, f3⟩ := (M1.out.box 1 rfl).fs
    go_upto_region 13 with fail
    clear c0 c1 c2 c3 f0 f1 f2 f3
    generalize hU : World.setCell (World.setCell (World.setCell (World.setCell w1 _ _) _ _) _ _) _ _ = U
    have M2 := hI ((M1.out.putU 1 rfl (M1.out.rat 0 rfl) hU).drop 1)
    clear hU M1
    by_cases hodd : (a.length - 1) * (b.length - 1) % 2 = 1
    · have HP := hI (And.intro HPP.out hodd)
      clear hodd
      have HO := hI (show resO (g + 1) a b = subO 0 v from HSv.out.trans (if_pos HP.out.2))
      have hp1 : decide ((P : Int) % 2 = 1) = true := by have := HP.out.2; rw [HP.out.1] at this; simp; omega
      have hp2 : (((P : Int) % 2) == 1) = true := by have := HP.out.2; rw [HP.out.1] at this; rw [beq_iff_eq]; omega
      go_wp2_with fail
      refine anyS_start (fun w' => Mem w w' [.box (w.heap.size + 1) qv, .box w.heap.size RVal.nil, .pol A' n' c' L', .pol A n c L]) [3] 4 (by kernel_rfl) (by kernel_rfl) ?_
      have hS := M2.out.drew
      clear hp1 hp2
      refine anyS_take (v := ?_) 1 (some 65) rfl (by kernel_rfl) (by kernel_rfl) (fun _ _ _ h => h) (by rfl) ?_ hS ?_; rotate_left
      · (intro w' hSw; obtain ⟨x0, x1, x2, x3⟩ := (hSw.box 0 rfl).cs; go_simp; try with_reducible rfl)
      try simp only [Act.put, List.setIfInBounds_toArray, List.set_cons_zero, List.set_cons_succ]
      have N1 := hI hS
      clear hS
      refine anyS_one 0 (by kernel_rfl) rfl (by rfl) (fun KK hKK => ?_)
      go_simp
      (with_reducible refine (unumber_any 0 U.drew (by decide) (by decide)).mono ?_)
      rintro e w8 ⟨q8, rfl, hq, hv, hb⟩
      have N2 := hI ((N1.out.on hb).addRat hq)
      have V8 := hI hv
      clear hq hv hb N1
      refine hKK.out _ _ (Or.inr (N2.out.drop 1)) ?_
      clear hKK KK 
      try simp only [Act.put, List.setIfInBounds_toArray, List.set_cons_zero, List.set_cons_succ]
      refine anyS_one 2 (by kernel_rfl) rfl (by rfl) (fun KK hKK => ?_)
      go_simp
      have C := udifference_any q8 qv 0 v w8 (N2.out.rat 0 rfl) (N2.out.box 1 rfl).sl (by show rv q8.o q8.od = _; rw [V8.out]; rfl) V1.out
      rcases hz : subO 0 v with er | z9
      · rw [hz] at C
        (with_reducible refine C.mono ?_)
        clear C
        rintro e wE ⟨rfl, hb⟩
        have HB := hI (N2.out.on hb).bel
        have HE := hI (HO.out.trans hz)
        clear hb hz
        go_wp2
        exact ⟨rfl, by rw [HE.out]; exact ⟨rfl, HB.out⟩⟩
      · rw [hz] at C
        (with_reducible refine C.mono ?_)
        clear C
        rintro e w9 ⟨q9, rfl, hq, hv, hb⟩
        have V9 := hI (And.intro hv hz)
        have N3 := hI ((N2.out.on hb).addRat hq)
        clear hq hv hb hz N2
        refine hKK.out _ _ (Or.inr (N3.out.drop 2)) ?_
        clear hKK KK 
        try simp only [Act.put, List.setIfInBounds_toArray, List.set_cons_zero, List.set_cons_succ]
        obtain ⟨c0, c1, c2, c3⟩ := (N3.out.box 3 rfl).cs
        obtain ⟨f0, f1, f2, f3⟩ := (N3.out.box 3 rfl).fs
        refine anyS_one 3 (by kernel_rfl) rfl (by rfl) (fun KK hKK => ?_)
        go_simp
        refine hKK.out _ _ (Or.inl rfl) ?_
        clear hKK KK c0 c1 c2 c3 f0 f1 f2 f3
        refine anyS_done (by kernel_rfl) ?_
        generalize hU : World.setCell (World.setCell (World.setCell (World.setCell w9 _ _) _ _) _ _) _ _ = U9
        have M9 := hI (N3.out.putU 3 rfl (N3.out.rat 0 rfl) hU)
        clear hU
        obtain ⟨j0, j1, j2, j3⟩ := (M9.out.box 3 rfl).cs
        go_wp2
        refine bodyPost_ret (v := .agg #[.bool q9.g, .slice q9.A q9.n q9.c, .bool q9.gd, .slice q9.Ad q9.nd q9.cd]) (by simp [results, Tryz.results95, go_sem, j0, j1, j2, j3]) rfl ?_
        rw [HO.out, V9.out.2]
        exact ⟨q9, rfl, (M9.out.box 3 rfl).sl, V9.out.1, M9.out.bel⟩
    · have HP := hI (And.intro HPP.out hodd)
      clear hodd
      have HO := hI (show resO (g + 1) a b = .ok v from HSv.out.trans (if_neg HP.out.2))
      have hp1 : decide ((P : Int) % 2 = 1) = false := by have := HP.out.2; rw [HP.out.1] at this; simp; omega
      have hp2 : (((P : Int) % 2) == 1) = false := by have := HP.out.2; rw [HP.out.1] at this; rw [beq_eq_false_iff_ne]; omega
      obtain ⟨d0, d1, d2, d3⟩ := (M2.out.box 0 rfl).cs
      obtain ⟨c0, c1, c2, c3⟩ := (M2.out.box 1 rfl).cs
      obtain ⟨f0, f1, f2, f3⟩ := (M2.out.box 1 rfl).fs
      go_wp2
      clear c0 c1 c2 c3 f0 f1 f2 f3 d0 d1 d2 d3 hp1 hp2
      generalize hU : World.setCell (World.setCell (World.setCell (World.setCell U _ _) _ _) _ _) _ _ = U9
      have M9 := hI (M2.out.putU 1 rfl (M2.out.box 0 rfl).sl hU)
      clear hU
      obtain ⟨j0, j1, j2, j3⟩ := (M9.out.box 1 rfl).cs
      refine bodyPost_ret (v := .agg #[.bool qv.g, .slice qv.A qv.n qv.c, .bool qv.gd, .slice qv.Ad qv.nd qv.cd]) (by simp [results, Tryz.results95, go_sem, j0, j1, j2, j3]) rfl ?_
      rw [HO.out]
      exact ⟨qv, rfl, (M9.out.box 1 rfl).sl, V1.out, M9.out.bel⟩
set_option linter.unusedSimpArgs false in
set_option linter.unusedVariables false in
set_option maxRecDepth 20000 in
set_option maxHeartbeats 4000000 in
theorem ures_div (A : Option Addr) (n c : Nat) (L : List RVal) (a : List Rat) (A' : Option Addr) (n' c' : Nat) (L' : List RVal) (b : List Rat) (w : World) (h : PSl w A n c L) (hv : Vs L a) (h' : PSl w A' n' c' L') (hv' : Vs L' b) (g : Nat) (hn : n ≤ 1000) (hn' : n' ≤ 1000) (h1 : 1 < n') (h2 : n' ≤ n) (hTb : Tr b) (ih : ∀ (Ar : Option Addr) (nr cr : Nat) (Lr : List RVal) (d : List Rat × List Rat) (W : World), pdivO a b = .ok d → PSl W A' n' c' L' → PSl W Ar nr cr Lr → Vs Lr d.2 → Calls Tryz.prog 95 #[.slice A' n' c', .slice Ar nr cr] W (OutW (resO g b d.2) W)) :
    Calls Tryz.prog 95 #[.slice A n c, .slice A' n' c'] w (OutW (resO (g + 1) a b) w) := by
  have M := hI (((((Mem.nil w).old (x := .pol A n c L) (by simp) h rfl).old (x := .pol A' n' c' L') (by simp [Rs.own]) h' rfl).newNil _ rfl).newNil (w.heap.size + 1) (by simp))
  have HV := hI (And.intro hv hv')
  have HTb := hI hTb
  have HN := hI (show n = a.length ∧ n' = b.length from ⟨by rw [← hv.len, h.len], by rw [← hv'.len, h'.len]⟩)
  have HS := hI (show resO (g + 1) a b = _ from resO_div (by rw [← HN.out.2]; omega) (by rw [← HN.out.1, ← HN.out.2]; omega))
  obtain ⟨P, hP⟩ : ∃ P : Nat, (n - 1) * (n' - 1) = P := ⟨_, rfl⟩
  have HPP := hI (show (a.length - 1) * (b.length - 1) = P by rw [← HN.out.1, ← HN.out.2]; exact hP)
  have e2 : ((n : Int) - 1) * ((n' : Int) - 1) = (P : Int) := by rw [← hP, Int.natCast_mul, Int.natCast_sub (by omega), Int.natCast_sub (by omega)]; rfl
  have hPb : P ≤ 1000 * 1000 := by rw [← hP]; exact Nat.mul_le_mul (by omega) (by omega)
  have e3 : wrap64 (((n : Int) - 1) * ((n' : Int) - 1)) = (P : Int) := by rw [e2]; exact IntWalk.wrap64_in _ ⟨by omega, by omega⟩
  have h3 : ((n : Int) == 0) = false := by rw [beq_eq_false_iff_ne]; omega
  have h4 : ((n' : Int) == 0) = false := by rw [beq_eq_false_iff_ne]; omega
  have h5 : (((n' : Int) - 1) == 0) = false := by rw [beq_eq_false_iff_ne]; omega
  clear h h' hv hv' hP hTb
  go_enter Tryz.func95, Tryz.ntmps95
  go_wp2_with fail
  generalize hW : World.alloc (World.alloc w _) _ = V at *
  clear hW
  have C := udiv_any A n c L a A' n' c' L' b V (M.out.pol 3 rfl) HV.out.1 (M.out.pol 2 rfl) HV.out.2 (by omega) (by omega) HTb.out
  rcases hz : pdivO a b with er | d
  · rw [hz] at C
    (with_reducible refine C.mono ?_)
    clear C
    rintro e wE ⟨rfl, hb⟩
    have HB := hI (M.out.on hb).bel
    have HE := hI (show resO (g + 1) a b = .error er from HS.out.trans (thenO_err hz _))
    clear hb hz
    go_wp2
    exact ⟨rfl, by rw [HE.out]; exact ⟨rfl, HB.out⟩⟩
  · rw [hz] at C
    (with_reducible refine C.mono ?_)
    clear C
    rintro e w1 ⟨Aq, nq, cq, Lq, Ar, nr, cr, Lr, rfl, hp, hv, hf, hp2, hv2, hf2, hb⟩
    have VD := hI (And.intro hz (And.intro hv2 (show nr = d.2.length by rw [← Vs.len hv2, hp2.len])))
    have M1 := hI (M.out.addPol hb hp2 hf2)
    clear hp hv hf hb hz hp2 hv2 hf2 M
    have hfd := fld_rest Aq nq cq Ar nr cr
    have HDl := hI (show nr ≤ n' - 1 by rw [VD.out.2.2, HN.out.2]; exact (pdivO_len VD.out.1).1)
    have HS1 := hI (show resO (g + 1) a b = _ from HS.out.trans (by rw [VD.out.1]))
    rcases Nat.eq_zero_or_pos nr with hnr | hnr
    · subst hnr
      have HE0 := hI (show resO (g + 1) a b = .ok 0 from HS1.out.trans (if_pos VD.out.2.2.symm))
      go_wp2_with fail
      (with_reducible refine (unumber_any 0 w1 (by decide) (by decide)).mono ?_)
      rintro e w2 ⟨q1, rfl, hq, hv, hb⟩
      have M2 := hI ((M1.out.on hb).addRat hq)
      have V1 := hI hv
      clear hq hv hb M1
      obtain ⟨c0, c1, c2, c3⟩ := (M2.out.box 3 rfl).cs
      obtain ⟨f0, f1, f2, f3⟩ := (M2.out.box 3 rfl).fs
      go_wp2
      clear c0 c1 c2 c3 f0 f1 f2 f3
      generalize hU : World.setCell (World.setCell (World.setCell (World.setCell w2 _ _) _ _) _ _) _ _ = U
      have M9 := hI (M2.out.putU 3 rfl (M2.out.rat 0 rfl) hU)
      clear hU
      obtain ⟨j0, j1, j2, j3⟩ := (M9.out.box 3 rfl).cs
      refine bodyPost_ret (v := .agg #[.bool q1.g, .slice q1.A q1.n q1.c, .bool q1.gd, .slice q1.Ad q1.nd q1.cd]) (by simp [results, Tryz.results95, go_sem, j0, j1, j2, j3]) rfl ?_
      rw [HE0.out]
      exact ⟨q1, rfl, (M9.out.box 3 rfl).sl, (by show rv q1.o q1.od = _; rw [V1.out]; rfl), M9.out.bel⟩
    · have hr3 : ((nr : Int) == 0) = false := by rw [beq_eq_false_iff_ne]; omega
      have HS2 := hI (HS1.out.trans (if_neg (by rw [← VD.out.2.2]; omega)))
      obtain ⟨ad, ql, pl, e9, hq, hp⟩ := (M1.out.pol 3 rfl).el (k := n' - 1) (by omega)
      subst e9
      have HQ := hI hq
      obtain ⟨x0, x1, x2, x3⟩ := (M1.out.pol 3 rfl).c4 rfl HQ.out hp
      clear hq
      obtain ⟨z, hz⟩ : ∃ z : Nat, n - 1 - (nr - 1) = z := ⟨_, rfl⟩
      have hz1 : (n : Int) - 1 - ((nr : Int) - 1) = (z : Int) := by have := HDl.out; omega
      have HZ := hI hz
      have hl1 : (n' : Int) - 1 = ((n' - 1 : Nat) : Int) := by omega
      have hl2 : ((n' - 1 : Nat) : Int) < n' := by omega
      have hl3 : (0 : Int) ≤ ((n' - 1 : Nat) : Int) := by omega
      have hzb : z ≤ 100000 := by omega
      clear hz
      go_wp2_with fail
      clear x0 x1 x2 x3
      have C := upow_any ql (coef b (n' - 1)) z w1 ((M1.out.pol 3 rfl).ins ql (List.mem_of_getElem? HQ.out)) (HV.out.2.at_ HQ.out) hzb
      rcases hz : powO (coef b (n' - 1)) z with er | x
      · rw [hz] at C
        (with_reducible refine C.mono ?_)
        clear C
        rintro e wE ⟨rfl, hb⟩
        have HB := hI (M1.out.on hb).bel
        have HE := hI (show resO (g + 1) a b = .error er from HS2.out.trans (by rw [← HN.out.1, ← HN.out.2, ← VD.out.2.2, HZ.out]; exact thenO_err hz _))
        clear hb hz
        go_wp2
        exact ⟨rfl, by rw [HE.out]; exact ⟨rfl, HB.out⟩⟩
      · rw [hz] at C
        (with_reducible refine C.mono ?_)
        clear C
        rintro e w2 ⟨q1, rfl, hq, hv, hb⟩
        have V1 := hI (And.intro hv hz)
        have M2 := hI ((M1.out.on hb).addRat hq)
        clear hq hv hb hz M1
        go_wp2_with fail
        have C := ih Ar nr cr Lr d w2 VD.out.1 (M2.out.pol 4 rfl) (M2.out.pol 1 rfl) VD.out.2.1
        rcases hz : resO g b d.2 with er | y
        · rw [hz] at C
          (with_reducible refine C.mono ?_)
          clear C
          rintro e wE ⟨rfl, hb⟩
          have HB := hI (M2.out.on hb).bel
          have HE := hI (show resO (g + 1) a b = .error er from HS2.out.trans (by rw [← HN.out.1, ← HN.out.2, ← VD.out.2.2, HZ.out, V1.out.2]; exact thenO_err hz _))
          clear hb hz
          go_wp2
          exact ⟨rfl, by rw [HE.out]; exact ⟨rfl, HB.out⟩⟩
        · rw [hz] at C
          (with_reducible refine C.mono ?_)
          clear C
          rintro e w3 ⟨q2, rfl, hq, hv, hb⟩
          have V2 := hI (And.intro hv hz)
          have M3 := hI ((M2.out.on hb).addRat hq)
          clear hq hv hb hz M2
          go_wp2_with fail
          have C := uproduct_any q1 q2 x y w3 (M3.out.rat 1 rfl) (M3.out.rat 0 rfl) V1.out.1 V2.out.1
          rcases hz : mulO x y with er | v
          · rw [hz] at C
            (with_reducible refine C.mono ?_)
            clear C
            rintro e wE ⟨rfl, hb⟩
            have HB := hI (M3.out.on hb).bel
            have HE := hI (show resO (g + 1) a b = .error er from HS2.out.trans (by rw [← HN.out.1, ← HN.out.2, ← VD.out.2.2, HZ.out, V1.out.2]; show thenO (resO g b d.2) _ = _; rw [V2.out.2]; exact thenO_err hz _))
            clear hb hz
            go_wp2
            exact ⟨rfl, by rw [HE.out]; exact ⟨rfl, HB.out⟩⟩
          · rw [hz] at C
            (with_reducible refine C.mono ?_)
            clear C
            rintro e w4 ⟨qv, rfl, hq, hv, hb⟩
            have V3 := hI (And.intro hv hz)
            have M4 := hI ((M3.out.on hb).addRat hq)
            clear hq hv hb hz M3
            have HSv := hI (show resO (g + 1) a b = (if (a.length - 1) * (b.length - 1) % 2 = 1 then subO 0 v else .ok v) from HS2.out.trans (by rw [← HN.out.1, ← HN.out.2, ← VD.out.2.2, HZ.out, V1.out.2]; show thenO (resO g b d.2) _ = _; rw [V2.out.2]; show thenO (mulO x y) _ = _; rw [V3.out.2]; rfl))
            have e4 : ((n : Int) - 1) * ((n' - 1 : Nat) : Int) = (P : Int) := by rw [← hl1]; exact e2
            have e5 : wrap64 (((n : Int) - 1) * ((n' - 1 : Nat) : Int)) = (P : Int) := by rw [← hl1]; exact e3
            obtain ⟨c0, c1, c2, c3⟩ := (M4.out.box 4 rfl).cs
            obtain ⟨f0, f1, f2, f3⟩ := (M4.out.box 4 rfl).fs
            go_upto_region 13 with fail
            clear c0 c1 c2 c3 f0 f1 f2 f3
            generalize hU : World.setCell (World.setCell (World.setCell (World.setCell w4 _ _) _ _) _ _) _ _ = U
            have M5 := hI ((M4.out.putU 4 rfl (M4.out.rat 0 rfl) hU).drop 4)
            clear hU M4
            by_cases hodd : (a.length - 1) * (b.length - 1) % 2 = 1
            · have HP := hI (And.intro HPP.out hodd)
              clear hodd
              have HO := hI (show resO (g + 1) a b = subO 0 v from HSv.out.trans (if_pos HP.out.2))
              have hp1 : decide ((P : Int) % 2 = 1) = true := by have := HP.out.2; rw [HP.out.1] at this; simp; omega
              have hp2 : (((P : Int) % 2) == 1) = true := by have := HP.out.2; rw [HP.out.1] at this; rw [beq_iff_eq]; omega
              go_wp2_with fail
              refine anyS_start (fun w' => Mem w w' [.box (w.heap.size + 1) qv, .box w.heap.size RVal.nil, .pol (some ad) n' c' L', .pol A n c L]) [3] 4 (by kernel_rfl) (by kernel_rfl) ?_
              have hS := M5.out.drew
              clear hp1 hp2
              refine anyS_take (v := ?_) 1 (some 65) rfl (by kernel_rfl) (by kernel_rfl) (fun _ _ _ h => h) (by rfl) ?_ hS ?_; rotate_left
              · (intro w' hSw; obtain ⟨x0, x1, x2, x3⟩ := (hSw.box 0 rfl).cs; go_simp; try with_reducible rfl)
              try simp only [Act.put, List.setIfInBounds_toArray, List.set_cons_zero, List.set_cons_succ]
              have N1 := hI hS
              clear hS
              refine anyS_one 0 (by kernel_rfl) rfl (by rfl) (fun KK hKK => ?_)
              go_simp
              (with_reducible refine (unumber_any 0 U.drew (by decide) (by decide)).mono ?_)
              rintro e w8 ⟨q8, rfl, hq, hv, hb⟩
              have N2 := hI ((N1.out.on hb).addRat hq)
              have V8 := hI hv
              clear hq hv hb N1
              refine hKK.out _ _ (Or.inr (N2.out.drop 1)) ?_
              clear hKK KK 
              try simp only [Act.put, List.setIfInBounds_toArray, List.set_cons_zero, List.set_cons_succ]
              refine anyS_one 2 (by kernel_rfl) rfl (by rfl) (fun KK hKK => ?_)
              go_simp
              have C := udifference_any q8 qv 0 v w8 (N2.out.rat 0 rfl) (N2.out.box 1 rfl).sl (by show rv q8.o q8.od = _; rw [V8.out]; rfl) V3.out.1
              rcases hz : subO 0 v with er | z9
              · rw [hz] at C
                (with_reducible refine C.mono ?_)
                clear C
                rintro e wE ⟨rfl, hb⟩
                have HB := hI (N2.out.on hb).bel
                have HE := hI (HO.out.trans hz)
                clear hb hz
                go_wp2
                exact ⟨rfl, by rw [HE.out]; exact ⟨rfl, HB.out⟩⟩
              · rw [hz] at C
                (with_reducible refine C.mono ?_)
                clear C
                rintro e w9 ⟨q9, rfl, hq, hv, hb⟩
                have V9 := hI (And.intro hv hz)
                have N3 := hI ((N2.out.on hb).addRat hq)
                clear hq hv hb hz N2
                refine hKK.out _ _ (Or.inr (N3.out.drop 2)) ?_
                clear hKK KK 
                try simp only [Act.put, List.setIfInBounds_toArray, List.set_cons_zero, List.set_cons_succ]
                obtain ⟨c0, c1, c2, c3⟩ := (N3.out.box 3 rfl).cs
                obtain ⟨f0, f1, f2, f3⟩ := (N3.out.box 3 rfl).fs
                refine anyS_one 3 (by kernel_rfl) rfl (by rfl) (fun KK hKK => ?_)
                go_simp
                refine hKK.out _ _ (Or.inl rfl) ?_
                clear hKK KK c0 c1 c2 c3 f0 f1 f2 f3
                refine anyS_done (by kernel_rfl) ?_
                generalize hU : World.setCell (World.setCell (World.setCell (World.setCell w9 _ _) _ _) _ _) _ _ = U9
                have M9 := hI (N3.out.putU 3 rfl (N3.out.rat 0 rfl) hU)
                clear hU
                obtain ⟨j0, j1, j2, j3⟩ := (M9.out.box 3 rfl).cs
                go_wp2
                refine bodyPost_ret (v := .agg #[.bool q9.g, .slice q9.A q9.n q9.c, .bool q9.gd, .slice q9.Ad q9.nd q9.cd]) (by simp [results, Tryz.results95, go_sem, j0, j1, j2, j3]) rfl ?_
                rw [HO.out, V9.out.2]
                exact ⟨q9, rfl, (M9.out.box 3 rfl).sl, V9.out.1, M9.out.bel⟩
            · have HP := hI (And.intro HPP.out hodd)
              clear hodd
              have HO := hI (show resO (g + 1) a b = .ok v from HSv.out.trans (if_neg HP.out.2))
              have hp1 : decide ((P : Int) % 2 = 1) = false := by have := HP.out.2; rw [HP.out.1] at this; simp; omega
              have hp2 : (((P : Int) % 2) == 1) = false := by have := HP.out.2; rw [HP.out.1] at this; rw [beq_eq_false_iff_ne]; omega
              obtain ⟨d0, d1, d2, d3⟩ := (M5.out.box 0 rfl).cs
              obtain ⟨c0, c1, c2, c3⟩ := (M5.out.box 1 rfl).cs
              obtain ⟨f0, f1, f2, f3⟩ := (M5.out.box 1 rfl).fs
              go_wp2
              clear c0 c1 c2 c3 f0 f1 f2 f3 d0 d1 d2 d3 hp1 hp2
              generalize hU : World.setCell (World.setCell (World.setCell (World.setCell U _ _) _ _) _ _) _ _ = U9
              have M9 := hI (M5.out.putU 1 rfl (M5.out.box 0 rfl).sl hU)
              clear hU
              obtain ⟨j0, j1, j2, j3⟩ := (M9.out.box 1 rfl).cs
              refine bodyPost_ret (v := .agg #[.bool qv.g, .slice qv.A qv.n qv.c, .bool qv.gd, .slice qv.Ad qv.nd qv.cd]) (by simp [results, Tryz.results95, go_sem, j0, j1, j2, j3]) rfl ?_
              rw [HO.out]
              exact ⟨qv, rfl, (M9.out.box 1 rfl).sl, V3.out.1, M9.out.bel⟩
def resN (a b : List Rat) : Nat := if a.length < b.length then 2 * a.length + 2 else 2 * b.length + 1
theorem ures_any : ∀ (g : Nat) (A : Option Addr) (n c : Nat) (L : List RVal) (a : List Rat) (A' : Option Addr) (n' c' : Nat) (L' : List RVal) (b : List Rat) (w : World), PSl w A n c L → Vs L a → PSl w A' n' c' L' → Vs L' b → n ≤ 1000 → n' ≤ 1000 → Tr a → Tr b → resN a b ≤ g →
    Calls Tryz.prog 95 #[.slice A n c, .slice A' n' c'] w (OutW (resO g a b) w)
  | 0, A, n, c, L, a, A', n', c', L', b, w, _, _, _, _, _, _, _, _, hg => by unfold resN at hg; split at hg <;> omega
  | g + 1, A, n, c, L, a, A', n', c', L', b, w, h, hv, h', hv', hn, hn', ha, hb, hg => by
    have e1 : a.length = n := by rw [← hv.len, h.len]
    have e2 : b.length = n' := by rw [← hv'.len, h'.len]
    rcases Nat.eq_zero_or_pos n with h0 | h0
    · exact ures_nil1 A n c L a A' n' c' L' b w h hv h' hv' g hn hn' h0
    · rcases Nat.eq_zero_or_pos n' with h1 | h1
      · exact ures_nil2 A n c L a A' n' c' L' b w h hv h' hv' g hn hn' h0 h1
      · by_cases h2 : n' = 1
        · exact ures_one A n c L a A' n' c' L' b w h hv h' hv' g hn hn' h0 h2
        · unfold resN at hg
          by_cases h3 : n < n'
          · rw [if_pos (by omega)] at hg
            refine ures_swap A n c L a A' n' c' L' b w h hv h' hv' g hn hn' h0 h3 fun W k k' => ?_
            exact ures_any g A' n' c' L' b A n c L a W k hv' k' hv hn' hn hb ha (by unfold resN; rw [if_neg (by omega)]; omega)
          · rw [if_neg (by omega)] at hg
            refine ures_div A n c L a A' n' c' L' b w h hv h' hv' g hn hn' (by omega) (by omega) hb fun Ar nr cr Lr d W hd k k' vr => ?_
            have l := pdivO_len hd
            have e3 : d.2.length = nr := by rw [← vr.len, k'.len]
            exact ures_any g A' n' c' L' b Ar nr cr Lr d.2 W k hv' k' vr hn' (by omega) hb l.2.1 (by unfold resN; rw [if_neg (by omega)]; omega)
end Go.Proofs.YtjbnclfbkccieaaGreatDoor
namespace Go.Proofs.YtjbnclfbkccieaaGreatDoor
open Go.RowKit
/-- What Check says of a list. -/
def chkE (L : List RVal) : Int := if L.any (fun q => q.v.isNone) = true then 1 else if L.length ≠ 0 ∧ (L.getD (L.length - 1) RVal.nil).n = 0 then 1 else if 65 < L.length then 2 else 0
def CkR (w : World) (A : Option Addr) (n c : Nat) (L : List RVal) (k : Nat) (wr : World) : Prop := Mem w wr [.pol A n c L] ∧ ∀ (j : Nat) (q : RVal), j < k → L[j]? = some q → q.v.isNone = false
theorem chk_bad {L : List RVal} {k : Nat} {q : RVal} (h : L[k]? = some q) (hv : q.v.isNone = true) : chkE L = 1 := by
  unfold chkE
  rw [if_pos]
  exact List.any_eq_true.2 ⟨q, List.mem_of_getElem? h, hv⟩
theorem chk_all {L : List RVal} (h : ∀ (j : Nat) (q : RVal), j < L.length → L[j]? = some q → q.v.isNone = false) : chkE L = if L.length ≠ 0 ∧ (L.getD (L.length - 1) RVal.nil).n = 0 then 1 else if 65 < L.length then 2 else 0 := by
  unfold chkE
  rw [if_neg]
  intro k
  obtain ⟨q, hq, hv⟩ := List.any_eq_true.1 k
  obtain ⟨j, hj, e⟩ := List.mem_iff_getElem.1 hq
  rw [h j q hj (by rw [List.getElem?_eq_getElem hj, e])] at hv
  cases hv
theorem getD_some {L : List RVal} {k : Nat} {q : RVal} (h : L[k]? = some q) : L.getD k RVal.nil = q := by rw [List.getD_eq_getElem?_getD, h]; rfl
def RetB (b : Int) (w : World) (e : Ending) (w' : World) : Prop := e = .returned (.int .i64 b) ∧ Below w.heap.size w w'
set_option linter.unusedSimpArgs false in
set_option linter.unusedVariables false in
set_option maxRecDepth 20000 in
set_option maxHeartbeats 4000000 in
theorem ucheck_any (A : Option Addr) (n c : Nat) (L : List RVal) (w : World) (h : PSl w A n c L) (hn : n ≤ 100000) : Calls Tryz.prog 22 #[.slice A n c] w (RetB (chkE L) w) := by
  have HN := hI h.len
  have H0 := hI (show CkR w A n c L 0 w from ⟨(Mem.nil w).old (x := .pol A n c L) (by simp) h rfl, fun j q hj => absurd hj (Nat.not_lt_zero _)⟩)
  clear h
  go_enter Tryz.func22, Tryz.ntmps22
  go_wp2_with fail
  go_loopw [7] (fun v wr => ∃ k : Nat, v = .int .i64 k ∧ k ≤ n ∧ Hid (CkR w A n c L k wr)) (fun v _ => n - (intOf v).toNat)
  case atStart => exact ⟨0, rfl, Nat.zero_le _, H0⟩
  case round =>
    obtain ⟨k, rfl, hk, HR⟩ := hrel
    clear H0
    by_cases hlt : k < n
    · obtain ⟨ad, q, p, rfl, hq, hp⟩ := (HR.out.1.pol 0 rfl).el hlt
      have HQ := hI hq
      have M := hI (HR.out.1.newBox ((HR.out.1.pol 0 rfl).ins q (List.mem_of_getElem? hq)) _ rfl)
      obtain ⟨x0, x1, x2, x3⟩ := (M.out.pol 1 rfl).c4 rfl hq hp
      obtain ⟨y0, y1, y2, y3⟩ := (HR.out.1.pol 0 rfl).c4 rfl hq hp
      clear hq
      go_wp2_with fail
      clear x0 x1 x2 x3 y0 y1 y2 y3
      generalize hW : World.alloc wr _ = V at *
      clear hW
      have C := ratValid_r (q := q) (w := V) (M.out.box 0 rfl).sl
      rw [show rv q.o q.od = q.v from rfl] at C
      rcases hv : q.v with _ | x
      · rw [hv] at C
        refine C.mono ?_
        clear C
        rintro e w1 ⟨rfl, hb⟩
        have HB := hI (M.out.on hb).bel
        have HE := hI (chk_bad HQ.out (by rw [hv]; rfl))
        clear hb hv
        go_wp2
        go_ret
        exact ⟨by rw [HE.out]; rfl, HB.out⟩
      · rw [hv] at C
        refine C.mono ?_
        clear C
        rintro e w1 ⟨rfl, hb⟩
        have HR2 := hI (show CkR w (some ad) n c L (k + 1) w1 from ⟨(M.out.on hb).drop 1, fun j q' hj hq' => by
          by_cases e : j < k
          · exact HR.out.2 j q' e hq'
          · have : j = k := by omega
            subst this
            rw [HQ.out] at hq'
            injection hq' with hq'
            subst hq'
            rw [hv]; rfl⟩)
        clear hb hv M
        go_wp2
        go_roundw
        case rel => exact ⟨k + 1, by go_num, by omega, HR2⟩
        case measure => simp [intOf]; omega
    · have hkm : n = k := by omega
      subst hkm
      have HE := hI (chk_all (L := L) (by rw [HN.out]; exact HR.out.2))
      clear hlt hk
      rcases Nat.eq_zero_or_pos n with h0 | h0
      · subst h0
        have HE2 := hI (show chkE L = 0 by rw [HE.out, HN.out, if_neg (by omega), if_neg (by omega)])
        go_wp2
        go_ret
        exact ⟨by rw [HE2.out]; rfl, HR.out.1.bel⟩
      · obtain ⟨ad, q, p, rfl, hq, hp⟩ := (HR.out.1.pol 0 rfl).el (k := n - 1) (by omega)
        have HQ := hI hq
        have HIn := hI ((HR.out.1.pol 0 rfl).ins q (List.mem_of_getElem? hq))
        obtain ⟨x0, x1, x2, x3⟩ := (HR.out.1.pol 0 rfl).c4 rfl hq hp
        clear hq
        have hl1 : (n : Int) - 1 = ((n - 1 : Nat) : Int) := by omega
        have hl2 : ((n - 1 : Nat) : Int) < n := by omega
        have hl3 : (0 : Int) ≤ ((n - 1 : Nat) : Int) := by omega
        go_wp2_with fail
        clear x0 x1 x2 x3
        have C := uisZero_any q wr HIn.out
        rcases hz : decide (q.n = 0) with _ | _
        · rw [hz] at C
          refine C.mono ?_
          clear C
          rintro e w1 ⟨rfl, hb⟩
          have HB := hI (HR.out.1.on hb).bel
          have hz2 := of_decide_eq_false hz
          by_cases h65 : 65 < n
          · have HE2 := hI (show chkE L = 2 by rw [HE.out, HN.out, getD_some HQ.out, if_neg (by simp [hz2]), if_pos h65])
            clear hb hz hz2
            go_wp2
            go_ret
            exact ⟨by rw [HE2.out]; rfl, HB.out⟩
          · have HE2 := hI (show chkE L = 0 by rw [HE.out, HN.out, getD_some HQ.out, if_neg (by simp [hz2]), if_neg h65])
            clear hb hz hz2
            go_wp2
            go_ret
            exact ⟨by rw [HE2.out]; rfl, HB.out⟩
        · rw [hz] at C
          refine C.mono ?_
          clear C
          rintro e w1 ⟨rfl, hb⟩
          have HB := hI (HR.out.1.on hb).bel
          have HE2 := hI (show chkE L = 1 by rw [HE.out, HN.out, getD_some HQ.out, if_pos ⟨by omega, of_decide_eq_true hz⟩])
          clear hb hz
          go_wp2
          go_ret
          exact ⟨by rw [HE2.out]; rfl, HB.out⟩
/-- A polynomial passes. -/
theorem chk_ok {L : List RVal} {l : List Rat} {w : World} {A : Option Addr} {n c : Nat} (h : PSl w A n c L) (hv : Vs L l) (ht : Tr l) (hl : l.length ≤ 65) : chkE L = 0 := by
  have hL := hv.len
  rw [chk_all (fun j q hj hq => by rw [hv.at_ hq]; rfl), if_neg, if_neg (by omega)]
  rintro ⟨h0, h1⟩
  obtain ⟨q, hq⟩ : ∃ q, L[L.length - 1]? = some q := ⟨_, List.getElem?_eq_getElem (by omega)⟩
  rw [getD_some hq] at h1
  have hn := n_zero (h.ins q (List.mem_of_getElem? hq)) (hv.at_ hq)
  rw [decide_eq_true h1] at hn
  have h2 := of_decide_eq_true hn.symm
  rcases ht with ht | ht
  · rw [ht] at hL; simp at hL; rw [hL] at h0; exact h0 rfl
  · rw [← hL] at ht; exact ht (Rat.num_eq_zero.1 h2)
end Go.Proofs.YtjbnclfbkccieaaGreatDoor
