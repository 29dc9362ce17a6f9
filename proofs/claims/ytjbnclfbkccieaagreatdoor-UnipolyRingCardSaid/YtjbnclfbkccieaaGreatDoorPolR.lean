/-
  Stage 3: the program's divide. Stage 3: polynomials on lists of rationals: sums, products and their laws by coefficients, the value, the derivative, the division.
-/
import Derived.Test.YtjbnclfbkccieaaGreatDoorPolM
import Derived.Test.YtjbnclfbkccieaaGreatDoorPolS
namespace Go.Proofs.YtjbnclfbkccieaaGreatDoor
open Go.RowKit
/-- A quotient and a rest are handed back. -/
def RetD (l m : List Rat) (w : World) (e : Ending) (w' : World) : Prop := ∃ (A : Option Addr) (n c : Nat) (L : List RVal) (A' : Option Addr) (n' c' : Nat) (L' : List RVal), e = .returned (.agg #[.slice A n c, .slice A' n' c']) ∧ PSl w' A n c L ∧ Vs L l ∧ (∀ ad, A = some ad → w.heap.size ≤ ad.block) ∧ PSl w' A' n' c' L' ∧ Vs L' m ∧ (∀ ad, A' = some ad → w.heap.size ≤ ad.block) ∧ Below w.heap.size w w'
def OutD (r : Except Int (List Rat × List Rat)) (w : World) (e : Ending) (w' : World) : Prop := match r with
  | .ok d => RetD d.1 d.2 w e w'
  | .error er => PanW er w e w'
theorem listO_copy (a : List Rat) : ∀ k, k ≤ a.length → listO (fun i => .ok (coef a i)) k = .ok (a.take k)
  | 0, _ => rfl
  | k + 1, h => by
    show thenO (listO _ k) _ = _
    rw [listO_copy a k (by omega)]
    show Except.ok (a.take k ++ [coef a k]) = _
    rw [List.take_succ_eq_append_getElem (show k < a.length by omega)]
    unfold coef
    rw [List.getD_eq_getElem?_getD, List.getElem?_eq_getElem (show k < a.length by omega)]
    rfl
theorem noU2s : NoU #[.slice none 0 0, .slice none 0 0] := by
  intro i v hv x e
  subst e
  rw [List.getElem?_toArray] at hv
  have := List.mem_of_getElem? hv
  simp at this
theorem Vs.set {L : List RVal} {l : List Rat} (h : Vs L l) {k : Nat} {q : RVal} {x : Rat} (hq : q.v = some x) : Vs (L.set k q) (l.set k x) := by
  unfold Vs at *
  rw [List.map_set, List.map_set, h, hq]
theorem Vs.cons {L : List RVal} {l : List Rat} {q : RVal} {x : Rat} (hq : q.v = some x) (h : Vs L l) : Vs (q :: L) (x :: l) := by
  unfold Vs at *
  rw [List.map_cons, List.map_cons, h, hq]
theorem drop_set {L : List RVal} {k : Nat} {q : RVal} (hk : k < L.length) : (L.set k q).drop k = q :: L.drop (k + 1) := by
  rw [List.drop_eq_getElem_cons (by rw [List.length_set]; exact hk), List.getElem_set_self, List.drop_set_of_lt (by omega)]
/-- j rounds of the division are done. -/
def DvR (w : World) (tl : List Rs) (b : List Rat) (s0 : List Rat × List Rat) (m rq rr j : Nat) (wr : World) : Prop :=
  ∃ (Q R : List RVal) (s : List Rat × List Rat), Mem w wr (.arr rq Q :: .arr rr R :: tl) ∧ Q.length = m ∧ Vs (Q.drop (m - j)) s.1 ∧ Vs R s.2 ∧ s.2.length = s0.2.length ∧ stepsO (fun j s => rowO b (m - 1 - j) s) s0 j = .ok s
/-- The round k, i places of the rest done. -/
def DvI (w : World) (tl : List Rs) (b : List Rat) (Q : List RVal) (s : List Rat) (c : Rat) (rq rr k i : Nat) (wr : World) : Prop :=
  ∃ (R : List RVal) (t : List Rat), Mem w wr (.arr rq Q :: .arr rr R :: tl) ∧ Vs R t ∧ t.length = s.length ∧ stepsO (restO b c k) s i = .ok t
set_option linter.unusedSimpArgs false in
set_option maxRecDepth 20000 in
set_option maxHeartbeats 4000000 in
theorem udiv_zero (A : Option Addr) (n c : Nat) (A' : Option Addr) (c' : Nat) (w : World) : Calls Tryz.prog 81 #[.slice A n c, .slice A' 0 c'] w (PanW 4 w) := by
  have HB := hI (below_new w (.cells #[.slice none 0 0, .slice none 0 0] 84))
  go_enter Tryz.func81, Tryz.ntmps81
  go_wp2_with fail
  refine (abandon_any 4 _).mono ?_
  rintro e w1 ⟨rfl, hb⟩
  have HB2 := hI (below_chain HB.out HB.out.size hb)
  clear hb
  go_wp2
  exact ⟨rfl, rfl, HB2.out⟩
set_option linter.unusedSimpArgs false in
set_option maxRecDepth 20000 in
set_option maxHeartbeats 4000000 in
theorem udiv_go (A : Option Addr) (n c : Nat) (L : List RVal) (a : List Rat) (A' : Option Addr) (n' c' : Nat) (L' : List RVal) (b : List Rat) (w : World) (h : PSl w A n c L) (hv : Vs L a) (h' : PSl w A' n' c' L') (hv' : Vs L' b)
    (hn : n ≤ 100000) (hn' : n' ≤ 100000) (h0 : 0 < n') (hl : coef b (b.length - 1) ≠ 0) :
    Calls Tryz.prog 81 #[.slice A n c, .slice A' n' c'] w (OutD (pdivO a b) w) := by
  have HV := hI (And.intro hv hv')
  have HN := hI (show n = a.length ∧ n' = b.length from ⟨by rw [← hv.len, h.len], by rw [← hv'.len, h'.len]⟩)
  have HL := hI hl
  have hmk := fun w => make_rats w n (by omega)
  have M := hI ((((((Mem.nil w).old (x := .pol A n c L) (by simp) h rfl).old (x := .pol A' n' c' L') (by simp [Rs.own]) h' rfl)).newCel (t := 84) noU2s _ rfl).newRow n (w.heap.size + 1) (by simp))
  obtain ⟨d, hd⟩ : ∃ d : Nat, n' = d + 1 := ⟨n' - 1, by omega⟩
  have hd1 : (n' : Int) - 1 = (d : Int) := by omega
  have h3 : ((n' : Int) == 0) = false := by rw [beq_eq_false_iff_ne]; omega
  have HD := hI hd
  have HBd := hI (show b.length - 1 = d by rw [← HN.out.2, hd]; rfl)
  have HS := hI (show pdivO a b = thenO (stepsO (fun j s => rowO b (n - d - 1 - j) s) ([], a) (n - d)) fun s => .ok (s.1, ptrim (s.2.take (min d n))) by unfold pdivO; rw [if_neg (by rw [← HN.out.2]; omega), HBd.out, ← HN.out.1])
  clear h h' hv hv' hl hd
  go_enter Tryz.func81, Tryz.ntmps81
  go_wp2_with fail
  have H0 := hI (show RowR w [.cel w.heap.size 84 #[.slice none 0 0, .slice none 0 0], .pol A' n' c' L', .pol A n c L] (fun i => .ok (coef a i)) n (w.heap.size + 1) 0 ((w.alloc (.cells #[.slice none 0 0, .slice none 0 0] 84)).alloc (.cells (nils n) 27)) from ⟨_, [], M.out, Fill.nil n, rfl⟩)
  clear M hmk
  go_loopw [23] (fun v wr => ∃ k : Nat, v = .int .i64 k ∧ k ≤ n ∧ Hid (RowR w [.cel w.heap.size 84 #[.slice none 0 0, .slice none 0 0], .pol A' n' c' L', .pol A n c L] (fun i => .ok (coef a i)) n (w.heap.size + 1) k wr)) (fun v _ => n - (intOf v).toNat)
  case atStart => exact ⟨0, rfl, Nat.zero_le _, H0⟩
  case round =>
    obtain ⟨k, rfl, hk, HR⟩ := hrel
    clear H0
    obtain ⟨R, l, HR⟩ := HR.out
    have HR := hI HR
    by_cases hlt : k < n
    · have HRl := hI (show k < R.length by rw [HR.out.2.1.1]; exact hlt)
      obtain ⟨ad, q, p, rfl, hq, hp⟩ := (HR.out.1.pol 3 rfl).el (k := k) hlt
      have HQ := hI hq
      clear hq
      obtain ⟨x0, x1, x2, x3⟩ := (HR.out.1.pol 3 rfl).c4 rfl HQ.out hp
      go_wp2_with fail
      clear x0 x1 x2 x3
      refine (uclone_any q (coef a k) wr ((HR.out.1.pol 3 rfl).ins q (List.mem_of_getElem? HQ.out)) (HV.out.1.at_ HQ.out)).mono ?_
      rintro e w1 ⟨q1, rfl, hq, hv, hb⟩
      have M1 := hI ((HR.out.1.on hb).addRat hq)
      have V1 := hI hv
      clear hq hv hb
      obtain ⟨⟨c0, c1, c2, c3⟩, f0, f1, f2, f3⟩ := M1.out.rowAt 1 rfl (List.getElem?_eq_getElem HRl.out)
      go_wp2
      clear c0 c1 c2 c3 f0 f1 f2 f3
      generalize hU : World.setCell (World.setCell (World.setCell (World.setCell w1 _ _) _ _) _ _) _ _ = U
      have M9 := hI ((M1.out.putRowU 1 rfl HRl.out (M1.out.rat 0 rfl) hU).drop 1)
      have HR2 := hI (show RowR w [.cel w.heap.size 84 #[.slice none 0 0, .slice none 0 0], .pol A' n' c' L', .pol (some ad) n c L] (fun i => .ok (coef a i)) n (w.heap.size + 1) (k + 1) U from RowR.next M9.out HR.out.2.1 HR.out.2.2 hlt V1.out rfl)
      clear hU M9 M1
      go_roundw
      case rel => exact ⟨k + 1, by go_num, by omega, HR2⟩
      case measure => simp [intOf]; omega
    · have hkm : n = k := by omega
      subst hkm
      obtain ⟨m, hm⟩ : ∃ m : Nat, n - d = m := ⟨_, rfl⟩
      have hmx : max (0 : Int) ((n : Int) - (d : Int)) = (m : Int) := by omega
      have hmk := fun w => make_rats w m (by omega)
      have HP := hI (row_done HR.out.1 HR.out.2.1 HR.out.2.2 (by omega))
      have HE := hI (show l = a by have := listO_copy a n (by rw [HN.out.1]; exact Nat.le_refl _); rw [HR.out.2.2] at this; injection this with this; rw [this, HN.out.1, List.take_length])
      have M := hI (HR.out.1.newRow m _ rfl)
      obtain ⟨rq, hrq⟩ : ∃ r : Nat, wr.heap.size = r := ⟨_, rfl⟩
      rw [hrq] at M
      have HRQ := hI (show w.heap.size ≤ rq by rw [← hrq]; exact HR.out.1.bel.size)
      have H0 := hI (show DvR w [.cel w.heap.size 84 #[.slice none 0 0, .slice none 0 0], .pol A' n' c' L', .pol A n c L] b ([], a) m rq (w.heap.size + 1) 0 (wr.alloc (.cells (nils m) 27)) from ⟨_, R, ([], a), M.out, List.length_replicate .., by rw [Nat.sub_zero, List.drop_of_length_le (by rw [List.length_replicate]; exact Nat.le_refl _)]; rfl, by have := HP.out.2; rw [HE.out] at this; exact this, rfl, rfl⟩)
      clear M HP HR
      clear hlt hk
      go_wp2_with fail
      clear hmk hrq hmx
      have HS := hI (HS.out)
      rw [hm] at HS
      have HM := hI hm
      clear hm
      go_loopw [9] (fun v wr => ∃ j : Nat, v = .int .i64 ((m : Int) - 1 - (j : Int)) ∧ j ≤ m ∧ Hid (DvR w [.cel w.heap.size 84 #[.slice none 0 0, .slice none 0 0], .pol A' n' c' L', .pol A n c L] b ([], a) m rq (w.heap.size + 1) j wr)) (fun v _ => (intOf v + 1).toNat)
      case atStart => exact ⟨0, by simp, Nat.zero_le _, H0⟩
      case round =>
        obtain ⟨j, rfl, hj, HR⟩ := hrel
        clear H0
        obtain ⟨Q, R, s, HR⟩ := HR.out
        have HR := hI HR
        by_cases hlt : j < m
        · obtain ⟨k, hk⟩ : ∃ k : Nat, m - 1 - j = k := ⟨_, rfl⟩
          have hk1 : (m : Int) - 1 - (j : Int) = (k : Int) := by omega
          have hkd : k + d < n := by have := HM.out; omega
          have hkm : k < m := by omega
          have HK := hI hk
          clear hk
          obtain ⟨ad, qd, pd, rfl, hq, hp⟩ := (HR.out.1.pol 3 rfl).el (k := d) (by have := HD.out; omega)
          have HQd := hI hq
          clear hq
          have HRl := hI (show R.length = n by rw [HR.out.2.2.2.1.len, HR.out.2.2.2.2.1, HN.out.1])
          obtain ⟨qr, hqr⟩ : ∃ q, R[k + d]? = some q := ⟨_, List.getElem?_eq_getElem (by rw [HRl.out]; exact hkd)⟩
          have HQr := hI hqr
          clear hqr
          have hi1 : IntKind.i64.wrap ((k : Int) + (d : Int)) = (k : Int) + (d : Int) := IntWalk.i64_in _ (by omega)
          have hi2 : (0 : Int) ≤ (k : Int) + (d : Int) := by omega
          have hi3 : (k : Int) + (d : Int) < n := by omega
          have hi4 : ((k : Int) + (d : Int)).toNat = k + d := by omega
          have hi5 : (d : Int) < n' := by have := HD.out; omega
          have hi6 : (k : Int) < m := by omega
          go_wp2_with fail
          refine anyS_start (fun w' => Mem w w' [.arr rq Q, .arr (w.heap.size + 1) R, .cel w.heap.size 84 #[.slice none 0 0, .slice none 0 0], .pol (some ad) n' c' L', .pol A n c L]) [14] 15 (by kernel_rfl) (by kernel_rfl) ?_
          have hS := HR.out.1.drew
          refine anyS_take (v := ?_) 0 (some 48) rfl (by kernel_rfl) (by kernel_rfl) (fun _ _ _ h => h) (by rfl) ?_ hS ?_; rotate_left
          · (intro w' hSw; go_simp; try with_reducible rfl)
          try simp only [Act.put, List.setIfInBounds_toArray, List.set_cons_zero, List.set_cons_succ]
          refine anyS_take (v := ?_) 1 (some 49) rfl (by kernel_rfl) (by kernel_rfl) (fun _ _ _ h => h) (by rfl) ?_ hS ?_; rotate_left
          · (intro w' hSw; go_simp; try with_reducible rfl)
          try simp only [Act.put, List.setIfInBounds_toArray, List.set_cons_zero, List.set_cons_succ]
          refine anyS_take (v := ?_) 2 (some 50) rfl (by kernel_rfl) (by kernel_rfl) (fun _ _ _ h => h) (by rfl) ?_ hS ?_; rotate_left
          · (intro w' hSw; go_simp; try with_reducible rfl)
          try simp only [Act.put, List.setIfInBounds_toArray, List.set_cons_zero, List.set_cons_succ]
          refine anyS_take (v := ?_) 3 (some 51) rfl (by kernel_rfl) (by kernel_rfl) (fun _ _ _ h => h) (by rfl) ?_ hS ?_; rotate_left
          · (intro w' hSw; go_simp; try with_reducible rfl)
          try simp only [Act.put, List.setIfInBounds_toArray, List.set_cons_zero, List.set_cons_succ]
          refine anyS_take (v := ?_) 4 (some 52) rfl (by kernel_rfl) (by kernel_rfl) (fun _ _ _ h => h) (by rfl) ?_ hS ?_; rotate_left
          · (intro w' hSw; go_simp; try with_reducible rfl)
          try simp only [Act.put, List.setIfInBounds_toArray, List.set_cons_zero, List.set_cons_succ]
          refine anyS_take (v := ?_) 5 (some 53) rfl (by kernel_rfl) (by kernel_rfl) (fun _ _ _ h => h) (by rfl) ?_ hS ?_; rotate_left
          · (intro w' hSw; go_simp; try with_reducible rfl)
          try simp only [Act.put, List.setIfInBounds_toArray, List.set_cons_zero, List.set_cons_succ]
          refine anyS_take (v := ?_) 6 (some 54) rfl (by kernel_rfl) (by kernel_rfl) (fun _ _ _ h => h) (by rfl) ?_ hS ?_; rotate_left
          · (intro w' hSw; go_simp; try with_reducible rfl)
          try simp only [Act.put, List.setIfInBounds_toArray, List.set_cons_zero, List.set_cons_succ]
          refine anyS_take (v := ?_) 7 (some 55) rfl (by kernel_rfl) (by kernel_rfl) (fun _ _ _ h => h) (by rfl) ?_ hS ?_; rotate_left
          · (intro w' hSw; obtain ⟨⟨x0, x1, x2, x3⟩, _⟩ := hSw.rowAt 1 rfl HQr.out; go_simp; try with_reducible rfl)
          try simp only [Act.put, List.setIfInBounds_toArray, List.set_cons_zero, List.set_cons_succ]
          refine anyS_take (v := ?_) 8 (some 56) rfl (by kernel_rfl) (by kernel_rfl) (fun _ _ _ h => h) (by rfl) ?_ hS ?_; rotate_left
          · (intro w' hSw; go_simp; try with_reducible rfl)
          try simp only [Act.put, List.setIfInBounds_toArray, List.set_cons_zero, List.set_cons_succ]
          refine anyS_take (v := ?_) 9 (some 57) rfl (by kernel_rfl) (by kernel_rfl) (fun _ _ _ h => h) (by rfl) ?_ hS ?_; rotate_left
          · (intro w' hSw; go_simp; try with_reducible rfl)
          try simp only [Act.put, List.setIfInBounds_toArray, List.set_cons_zero, List.set_cons_succ]
          refine anyS_take (v := ?_) 10 (some 58) rfl (by kernel_rfl) (by kernel_rfl) (fun _ _ _ h => h) (by rfl) ?_ hS ?_; rotate_left
          · (intro w' hSw; go_simp; try with_reducible rfl)
          try simp only [Act.put, List.setIfInBounds_toArray, List.set_cons_zero, List.set_cons_succ]
          refine anyS_take (v := ?_) 11 (some 59) rfl (by kernel_rfl) (by kernel_rfl) (fun _ _ _ h => h) (by rfl) ?_ hS ?_; rotate_left
          · (intro w' hSw; obtain ⟨x0, x1, x2, x3⟩ := (hSw.pol 3 rfl).c4 rfl HQd.out hp; go_simp; try with_reducible rfl)
          try simp only [Act.put, List.setIfInBounds_toArray, List.set_cons_zero, List.set_cons_succ]
          have M1 := hI hS
          clear hS
          have HLd := hI (show coef b d ≠ 0 by have := HL.out; rw [← HN.out.2, HD.out] at this; exact this)
          refine anyS_one 12 (by kernel_rfl) rfl (by rfl) (fun KK hKK => ?_)
          go_simp
          have C := uquotient_any qr qd (coef s.2 (k + d)) (coef b d) wr.drew ((M1.out.arr 1 rfl).2 qr (List.mem_of_getElem? HQr.out)) ((M1.out.pol 3 rfl).ins qd (List.mem_of_getElem? HQd.out)) (HR.out.2.2.2.1.at_ HQr.out) (HV.out.2.at_ HQd.out) HLd.out
          rcases hz : divO (coef s.2 (k + d)) (coef b d) with er | cc
          · rw [hz] at C
            (with_reducible refine C.mono ?_)
            clear C
            rintro e wE ⟨rfl, hb⟩
            have HB := hI (M1.out.on hb).bel
            have HE := hI (show pdivO a b = .error er from by rw [HS.out, stepsO_err (e := er) _ _ (show j + 1 ≤ m by omega) (by rw [stepsO_succ, HR.out.2.2.2.2.2]; show rowO b (m - 1 - j) s = _; unfold rowO; rw [HK.out, HBd.out]; exact thenO_err hz _)]; rfl)
            clear hb hz
            go_wp2
            exact ⟨rfl, by rw [HE.out]; exact ⟨rfl, HB.out⟩⟩
          · rw [hz] at C
            (with_reducible refine C.mono ?_)
            clear C
            rintro e w2 ⟨qc, rfl, hq, hv, hb⟩
            have Vc := hI (And.intro hv hz)
            have M2 := hI ((M1.out.on hb).addRat hq)
            clear hq hv hb hz M1
            refine hKK.out _ _ (Or.inr (M2.out.drop 1)) ?_
            clear hKK KK 
            try simp only [Act.put, List.setIfInBounds_toArray, List.set_cons_zero, List.set_cons_succ]
            have HQl := hI (show k < Q.length by rw [HR.out.2.1]; exact hkm)
            obtain ⟨⟨c0, c1, c2, c3⟩, f0, f1, f2, f3⟩ := M2.out.rowAt 1 rfl (List.getElem?_eq_getElem HQl.out)
            refine anyS_one 13 (by kernel_rfl) rfl (by rfl) (fun KK hKK => ?_)
            go_simp
            refine hKK.out _ _ (Or.inr (M2.out.drop 1)) ?_
            clear hKK KK 
            try simp only [Act.put, List.setIfInBounds_toArray, List.set_cons_zero, List.set_cons_succ]
            refine anyS_one 14 (by kernel_rfl) rfl (by rfl) (fun KK hKK => ?_)
            go_simp
            refine hKK.out _ _ (Or.inl rfl) ?_
            clear hKK KK c0 c1 c2 c3 f0 f1 f2 f3
            refine anyS_done (by kernel_rfl) ?_
            generalize hU : World.setCell (World.setCell (World.setCell (World.setCell w2 _ _) _ _) _ _) _ _ = U
            have M3 := hI ((M2.out.putRowU 1 rfl HQl.out (M2.out.rat 0 rfl) hU).drop 1)
            have H1 := hI (show DvI w [.cel w.heap.size 84 #[.slice none 0 0, .slice none 0 0], .pol (some ad) n' c' L', .pol A n c L] b (Q.set k qc) s.2 cc rq (w.heap.size + 1) k 0 U from ⟨R, s.2, M3.out, HR.out.2.2.2.1, rfl, rfl⟩)
            clear hU M3 M2
            clear hp hi1 hi2 hi3 hi4 hi5 hi6
            go_wp2_with fail
            go_loopw [63] (fun v wr => ∃ i : Nat, v = .int .i64 i ∧ i ≤ d ∧ Hid (DvI w [.cel w.heap.size 84 #[.slice none 0 0, .slice none 0 0], .pol (some ad) n' c' L', .pol A n c L] b (Q.set k qc) s.2 cc rq (w.heap.size + 1) k i wr)) (fun v _ => d - (intOf v).toNat)
            case atStart => exact ⟨0, rfl, Nat.zero_le _, H1⟩
            case round =>
              obtain ⟨i, rfl, hi, HI⟩ := hrel
              clear H1
              obtain ⟨R1, t, HI⟩ := HI.out
              have HI := hI HI
              by_cases hlt2 : i < d
              · obtain ⟨ad2, qi, pi, e2, hq, hp⟩ := (HI.out.1.pol 3 rfl).el (k := i) (by have := HD.out; omega)
                injection e2 with e2
                subst e2
                have HQi := hI hq
                clear hq
                have HR1l := hI (show R1.length = n by rw [HI.out.2.1.len, HI.out.2.2.1, ← HR.out.2.2.2.1.len, HRl.out])
                have HRi := hI (show k + i < R1.length by rw [HR1l.out]; omega)
                obtain ⟨qr2, hqr⟩ : ∃ q, R1[k + i]? = some q := ⟨_, List.getElem?_eq_getElem HRi.out⟩
                have HQr2 := hI hqr
                clear hqr
                have HQk := hI (show (Q.set k qc)[k]? = some qc from List.getElem?_set_self HQl.out)
                have hi1 : IntKind.i64.wrap ((k : Int) + (i : Int)) = (k : Int) + (i : Int) := IntWalk.i64_in _ (by omega)
                have hi2 : (0 : Int) ≤ (k : Int) + (i : Int) := by omega
                have hi3 : (k : Int) + (i : Int) < n := by omega
                have hi4 : ((k : Int) + (i : Int)).toNat = k + i := by omega
                have hi5 : (i : Int) < n' := by have := HD.out; omega
                have hi6 : (k : Int) < m := by omega
                go_wp2_with fail
                refine anyS_start (fun w' => Mem w w' [.arr rq (Q.set k qc), .arr (w.heap.size + 1) R1, .cel w.heap.size 84 #[.slice none 0 0, .slice none 0 0], .pol (some ad) n' c' L', .pol A n c L]) [21] 22 (by kernel_rfl) (by kernel_rfl) ?_
                have hS := HI.out.1.drew
                refine anyS_take (v := ?_) 0 (some 66) rfl (by kernel_rfl) (by kernel_rfl) (fun _ _ _ h => h) (by rfl) ?_ hS ?_; rotate_left
                · (intro w' hSw; go_simp; try with_reducible rfl)
                try simp only [Act.put, List.setIfInBounds_toArray, List.set_cons_zero, List.set_cons_succ]
                refine anyS_take (v := ?_) 1 (some 67) rfl (by kernel_rfl) (by kernel_rfl) (fun _ _ _ h => h) (by rfl) ?_ hS ?_; rotate_left
                · (intro w' hSw; go_simp; try with_reducible rfl)
                try simp only [Act.put, List.setIfInBounds_toArray, List.set_cons_zero, List.set_cons_succ]
                refine anyS_take (v := ?_) 2 (some 68) rfl (by kernel_rfl) (by kernel_rfl) (fun _ _ _ h => h) (by rfl) ?_ hS ?_; rotate_left
                · (intro w' hSw; go_simp; try with_reducible rfl)
                try simp only [Act.put, List.setIfInBounds_toArray, List.set_cons_zero, List.set_cons_succ]
                refine anyS_take (v := ?_) 3 (some 69) rfl (by kernel_rfl) (by kernel_rfl) (fun _ _ _ h => h) (by rfl) ?_ hS ?_; rotate_left
                · (intro w' hSw; go_simp; try with_reducible rfl)
                try simp only [Act.put, List.setIfInBounds_toArray, List.set_cons_zero, List.set_cons_succ]
                refine anyS_take (v := ?_) 4 (some 70) rfl (by kernel_rfl) (by kernel_rfl) (fun _ _ _ h => h) (by rfl) ?_ hS ?_; rotate_left
                · (intro w' hSw; go_simp; try with_reducible rfl)
                try simp only [Act.put, List.setIfInBounds_toArray, List.set_cons_zero, List.set_cons_succ]
                refine anyS_take (v := ?_) 5 (some 71) rfl (by kernel_rfl) (by kernel_rfl) (fun _ _ _ h => h) (by rfl) ?_ hS ?_; rotate_left
                · (intro w' hSw; go_simp; try with_reducible rfl)
                try simp only [Act.put, List.setIfInBounds_toArray, List.set_cons_zero, List.set_cons_succ]
                refine anyS_take (v := ?_) 6 (some 72) rfl (by kernel_rfl) (by kernel_rfl) (fun _ _ _ h => h) (by rfl) ?_ hS ?_; rotate_left
                · (intro w' hSw; go_simp; try with_reducible rfl)
                try simp only [Act.put, List.setIfInBounds_toArray, List.set_cons_zero, List.set_cons_succ]
                refine anyS_take (v := ?_) 7 (some 73) rfl (by kernel_rfl) (by kernel_rfl) (fun _ _ _ h => h) (by rfl) ?_ hS ?_; rotate_left
                · (intro w' hSw; go_simp; try with_reducible rfl)
                try simp only [Act.put, List.setIfInBounds_toArray, List.set_cons_zero, List.set_cons_succ]
                refine anyS_take (v := ?_) 8 (some 74) rfl (by kernel_rfl) (by kernel_rfl) (fun _ _ _ h => h) (by rfl) ?_ hS ?_; rotate_left
                · (intro w' hSw; go_simp; try with_reducible rfl)
                try simp only [Act.put, List.setIfInBounds_toArray, List.set_cons_zero, List.set_cons_succ]
                refine anyS_take (v := ?_) 9 (some 75) rfl (by kernel_rfl) (by kernel_rfl) (fun _ _ _ h => h) (by rfl) ?_ hS ?_; rotate_left
                · (intro w' hSw; obtain ⟨⟨x0, x1, x2, x3⟩, _⟩ := hSw.rowAt 1 rfl HQr2.out; go_simp; try with_reducible rfl)
                try simp only [Act.put, List.setIfInBounds_toArray, List.set_cons_zero, List.set_cons_succ]
                refine anyS_take (v := ?_) 10 (some 76) rfl (by kernel_rfl) (by kernel_rfl) (fun _ _ _ h => h) (by rfl) ?_ hS ?_; rotate_left
                · (intro w' hSw; go_simp; try with_reducible rfl)
                try simp only [Act.put, List.setIfInBounds_toArray, List.set_cons_zero, List.set_cons_succ]
                refine anyS_take (v := ?_) 11 (some 77) rfl (by kernel_rfl) (by kernel_rfl) (fun _ _ _ h => h) (by rfl) ?_ hS ?_; rotate_left
                · (intro w' hSw; go_simp; try with_reducible rfl)
                try simp only [Act.put, List.setIfInBounds_toArray, List.set_cons_zero, List.set_cons_succ]
                refine anyS_take (v := ?_) 12 (some 78) rfl (by kernel_rfl) (by kernel_rfl) (fun _ _ _ h => h) (by rfl) ?_ hS ?_; rotate_left
                · (intro w' hSw; go_simp; try with_reducible rfl)
                try simp only [Act.put, List.setIfInBounds_toArray, List.set_cons_zero, List.set_cons_succ]
                refine anyS_take (v := ?_) 13 (some 79) rfl (by kernel_rfl) (by kernel_rfl) (fun _ _ _ h => h) (by rfl) ?_ hS ?_; rotate_left
                · (intro w' hSw; obtain ⟨⟨x0, x1, x2, x3⟩, _⟩ := hSw.rowAt 0 rfl HQk.out; go_simp; try with_reducible rfl)
                try simp only [Act.put, List.setIfInBounds_toArray, List.set_cons_zero, List.set_cons_succ]
                refine anyS_take (v := ?_) 14 (some 80) rfl (by kernel_rfl) (by kernel_rfl) (fun _ _ _ h => h) (by rfl) ?_ hS ?_; rotate_left
                · (intro w' hSw; go_simp; try with_reducible rfl)
                try simp only [Act.put, List.setIfInBounds_toArray, List.set_cons_zero, List.set_cons_succ]
                refine anyS_take (v := ?_) 15 (some 81) rfl (by kernel_rfl) (by kernel_rfl) (fun _ _ _ h => h) (by rfl) ?_ hS ?_; rotate_left
                · (intro w' hSw; go_simp; try with_reducible rfl)
                try simp only [Act.put, List.setIfInBounds_toArray, List.set_cons_zero, List.set_cons_succ]
                refine anyS_take (v := ?_) 16 (some 82) rfl (by kernel_rfl) (by kernel_rfl) (fun _ _ _ h => h) (by rfl) ?_ hS ?_; rotate_left
                · (intro w' hSw; go_simp; try with_reducible rfl)
                try simp only [Act.put, List.setIfInBounds_toArray, List.set_cons_zero, List.set_cons_succ]
                refine anyS_take (v := ?_) 17 (some 83) rfl (by kernel_rfl) (by kernel_rfl) (fun _ _ _ h => h) (by rfl) ?_ hS ?_; rotate_left
                · (intro w' hSw; obtain ⟨x0, x1, x2, x3⟩ := (hSw.pol 3 rfl).c4 rfl HQi.out hp; go_simp; try with_reducible rfl)
                try simp only [Act.put, List.setIfInBounds_toArray, List.set_cons_zero, List.set_cons_succ]
                have M1 := hI hS
                clear hS
                refine anyS_one 18 (by kernel_rfl) rfl (by rfl) (fun KK hKK => ?_)
                go_simp
                have C := uproduct_any qc qi cc (coef b i) wr.drew ((M1.out.arr 0 rfl).2 qc (List.mem_of_getElem? HQk.out)) ((M1.out.pol 3 rfl).ins qi (List.mem_of_getElem? HQi.out)) Vc.out.1 (HV.out.2.at_ HQi.out)
                rcases hz : mulO cc (coef b i) with er | z3
                · rw [hz] at C
                  (with_reducible refine C.mono ?_)
                  clear C
                  rintro e wE ⟨rfl, hb⟩
                  have HB := hI (M1.out.on hb).bel
                  have HE := hI (show pdivO a b = .error er from by rw [HS.out, stepsO_err (e := er) _ _ (show j + 1 ≤ m by omega) (by rw [stepsO_succ, HR.out.2.2.2.2.2]; show rowO b (m - 1 - j) s = _; unfold rowO; rw [HK.out, HBd.out]; rw [thenO_ok Vc.out.2]; exact thenO_err (stepsO_err (e := er) _ _ (show i + 1 ≤ d by omega) (by rw [stepsO_succ, HI.out.2.2.2]; exact thenO_err hz _)) _)]; rfl)
                  clear hb hz
                  go_wp2
                  exact ⟨rfl, by rw [HE.out]; exact ⟨rfl, HB.out⟩⟩
                · rw [hz] at C
                  (with_reducible refine C.mono ?_)
                  clear C
                  rintro e w4 ⟨q3, rfl, hq, hv, hb⟩
                  have V3 := hI (And.intro hv hz)
                  have M2 := hI ((M1.out.on hb).addRat hq)
                  clear hq hv hb hz M1
                  refine hKK.out _ _ (Or.inr (M2.out.drop 1)) ?_
                  clear hKK KK 
                  try simp only [Act.put, List.setIfInBounds_toArray, List.set_cons_zero, List.set_cons_succ]
                  refine anyS_one 19 (by kernel_rfl) rfl (by rfl) (fun KK hKK => ?_)
                  go_simp
                  have C := udifference_any qr2 q3 (coef t (k + i)) z3 w4 ((M2.out.arr 2 rfl).2 qr2 (List.mem_of_getElem? HQr2.out)) (M2.out.rat 0 rfl) (HI.out.2.1.at_ HQr2.out) V3.out.1
                  rcases hz : subO (coef t (k + i)) z3 with er | z4
                  · rw [hz] at C
                    (with_reducible refine C.mono ?_)
                    clear C
                    rintro e wE ⟨rfl, hb⟩
                    have HB := hI (M2.out.on hb).bel
                    have HE := hI (show pdivO a b = .error er from by rw [HS.out, stepsO_err (e := er) _ _ (show j + 1 ≤ m by omega) (by rw [stepsO_succ, HR.out.2.2.2.2.2]; show rowO b (m - 1 - j) s = _; unfold rowO; rw [HK.out, HBd.out]; rw [thenO_ok Vc.out.2]; exact thenO_err (stepsO_err (e := er) _ _ (show i + 1 ≤ d by omega) (by rw [stepsO_succ, HI.out.2.2.2]; show thenO (mulO _ _) _ = _; rw [V3.out.2]; exact thenO_err hz _)) _)]; rfl)
                    clear hb hz
                    go_wp2
                    exact ⟨rfl, by rw [HE.out]; exact ⟨rfl, HB.out⟩⟩
                  · rw [hz] at C
                    (with_reducible refine C.mono ?_)
                    clear C
                    rintro e w5 ⟨q4, rfl, hq, hv, hb⟩
                    have V4 := hI (And.intro hv hz)
                    have M3 := hI ((M2.out.on hb).addRat hq)
                    clear hq hv hb hz M2
                    refine hKK.out _ _ (Or.inr (M3.out.drop 2)) ?_
                    clear hKK KK 
                    try simp only [Act.put, List.setIfInBounds_toArray, List.set_cons_zero, List.set_cons_succ]
                    obtain ⟨⟨c0, c1, c2, c3⟩, f0, f1, f2, f3⟩ := M3.out.rowAt 3 rfl (List.getElem?_eq_getElem HRi.out)
                    refine anyS_one 20 (by kernel_rfl) rfl (by rfl) (fun KK hKK => ?_)
                    go_simp
                    refine hKK.out _ _ (Or.inr (M3.out.drop 2)) ?_
                    clear hKK KK 
                    try simp only [Act.put, List.setIfInBounds_toArray, List.set_cons_zero, List.set_cons_succ]
                    refine anyS_one 21 (by kernel_rfl) rfl (by rfl) (fun KK hKK => ?_)
                    go_simp
                    refine hKK.out _ _ (Or.inl rfl) ?_
                    clear hKK KK c0 c1 c2 c3 f0 f1 f2 f3
                    refine anyS_done (by kernel_rfl) ?_
                    generalize hU : World.setCell (World.setCell (World.setCell (World.setCell w5 _ _) _ _) _ _) _ _ = U2
                    have M4 := hI ((M3.out.putRowU 3 rfl HRi.out (M3.out.rat 0 rfl) hU).drop 2)
                    have HI2 := hI (show DvI w [.cel w.heap.size 84 #[.slice none 0 0, .slice none 0 0], .pol (some ad) n' c' L', .pol A n c L] b (Q.set k qc) s.2 cc rq (w.heap.size + 1) k (i + 1) U2 from ⟨R1.set (k + i) q4, t.set (k + i) z4, M4.out, HI.out.2.1.set V4.out.1, by rw [List.length_set]; exact HI.out.2.2.1, by rw [stepsO_succ, HI.out.2.2.2]; show thenO (mulO _ _) _ = _; rw [V3.out.2]; show thenO (subO _ _) _ = _; rw [V4.out.2]; rfl⟩)
                    clear hU M4 M3 hp
                    go_wp2
                    go_roundw
                    case rel => exact ⟨i + 1, by go_num, by omega, HI2⟩
                    case measure => simp [intOf]; omega
              · have hid : d = i := by omega
                subst hid
                have HQ9 := hI (show Vs ((Q.set k qc).drop (m - (j + 1))) (cc :: s.1) by
                  have := HK.out
                  rw [show m - (j + 1) = k by omega, drop_set HQl.out, show k + 1 = m - j by omega]
                  exact Vs.cons Vc.out.1 HR.out.2.2.1)
                have HR2 := hI (show DvR w [.cel w.heap.size 84 #[.slice none 0 0, .slice none 0 0], .pol (some ad) n' c' L', .pol A n c L] b ([], a) m rq (w.heap.size + 1) (j + 1) wr from ⟨Q.set k qc, R1, (cc :: s.1, t), HI.out.1, by rw [List.length_set]; exact HR.out.2.1, HQ9.out, HI.out.2.1, by show t.length = a.length; rw [HI.out.2.2.1, HR.out.2.2.2.2.1], by rw [stepsO_succ, HR.out.2.2.2.2.2]; show rowO b (m - 1 - j) s = _; unfold rowO; rw [HK.out, HBd.out, thenO_ok Vc.out.2, thenO_ok HI.out.2.2.2]⟩)
                have hk2 : (k : Int) - 1 = (m : Int) - 1 - ((j + 1 : Nat) : Int) := by omega
                clear hlt2 hk1
                go_wp2
                go_roundw
                case rel => exact ⟨j + 1, by push_cast; rfl, by omega, HR2⟩
                case measure => simp [intOf]; omega
        · have hjm : m = j := by omega
          subst hjm
          obtain ⟨z, hz⟩ : ∃ z : Nat, min d n = z := ⟨_, rfl⟩
          have hz1 : min (d : Int) (n : Int) = (z : Int) := by omega
          have hz2 : z ≤ n := by omega
          have ht : decide ((0 : Int) ≤ (m : Int) - 1 - (m : Int)) = false := by simp; omega
          have HE := hI (show pdivO a b = .ok (s.1, ptrim (s.2.take z)) by rw [HS.out, HR.out.2.2.2.2.2, hz]; rfl)
          have HQ := hI (show PSl wr (some ⟨rq, 0, none⟩) m m Q ∧ Vs Q s.1 by
            have e1 := psl_arr (HR.out.1.arr 0 rfl) (by rw [HR.out.2.1]; have := HM.out; omega)
            have e2 := HR.out.2.2.1
            rw [Nat.sub_self, List.drop_zero] at e2
            rw [HR.out.2.1] at e1
            exact ⟨e1, e2⟩)
          have HP := hI (show PSl wr (some ⟨w.heap.size + 1, 0, none⟩) z n (R.take z) ∧ Vs (R.take z) (s.2.take z) by
            have hRl : R.length = n := by rw [HR.out.2.2.2.1.len, HR.out.2.2.2.2.1, HN.out.1]
            have e1 := psl_arr (HR.out.1.arr 1 rfl) (by rw [hRl]; omega)
            rw [hRl] at e1
            refine ⟨e1.take hz2, ?_⟩
            have e2 := HR.out.2.2.2.1
            unfold Vs at *
            rw [List.map_take, List.map_take, e2])
          have hmn : ¬ n = 0 ∨ n = 0 := by omega
          clear hz hlt hj
          go_wp2_with fail
          refine (utrim_any _ _ _ _ _ wr HP.out.1 HP.out.2).mono ?_
          rintro e w1 ⟨rfl, hb⟩
          have T1 := hI (utrim_psl HP.out.1 HP.out.2)
          have B1 := hI hb
          have M1 := hI (HR.out.1.on hb)
          have HRR := hI (show w.heap.size ≤ rq from HRQ.out)
          clear hb
          have c0 := (M1.out.cel 2 rfl).1.cell 0
          have c1 := (M1.out.cel 2 rfl).1.cell 1
          have f0 := (M1.out.cel 2 rfl).1.frozen 0
          have f1 := (M1.out.cel 2 rfl).1.frozen 1
          simp only [List.getElem?_toArray, List.getElem?_cons_zero, List.getElem?_cons_succ] at c0 c1
          go_wp2
          clear c0 c1 f0 f1
          generalize hU : World.setCell (World.setCell w1 _ _) _ _ = U
          have M2 : Hid (Mem w U _) := hI (hU ▸ ((M1.out.putCel 2 rfl 0 (by decide) (ns (some ⟨rq, 0, none⟩) m m)).putCel 2 rfl 1 (by simp) (ns (some ⟨w.heap.size + 1, 0, none⟩) (ptrim (s.2.take z)).length n)))
          have hRl := hI (show R.length = n by rw [HR.out.2.2.2.1.len, HR.out.2.2.2.2.1, HN.out.1])
          have hpl := hI (show (ptrim (s.2.take z)).length ≤ z from Nat.le_trans (ptrim_le _) (by rw [List.length_take]; exact Nat.min_le_left _ _))
          have P1 := hI (show PSl U (some ⟨rq, 0, none⟩) m m Q by have e1 := psl_arr (M2.out.arr 0 rfl) (by rw [HR.out.2.1]; have := HM.out; omega); rw [HR.out.2.1] at e1; exact e1)
          have P2 := hI (show PSl U (some ⟨w.heap.size + 1, 0, none⟩) (ptrim (s.2.take z)).length n (R.take (ptrim (s.2.take z)).length) by have e1 := psl_arr (M2.out.arr 1 rfl) (by rw [hRl.out]; omega); rw [hRl.out] at e1; exact e1.take (Nat.le_trans hpl.out hz2))
          have V2 := hI (show Vs (R.take (ptrim (s.2.take z)).length) (ptrim (s.2.take z)) by have := T1.out.2; rw [List.take_take, Nat.min_eq_left hpl.out] at this; exact this)
          have j0 := (M2.out.cel 2 rfl).1.cell 0
          have j1 := (M2.out.cel 2 rfl).1.cell 1
          simp at j0 j1
          refine bodyPost_ret (v := .agg #[.slice (some ⟨rq, 0, none⟩) m m, .slice (some ⟨w.heap.size + 1, 0, none⟩) (ptrim (s.2.take z)).length n]) (by simp [results, Tryz.results81, go_sem, j0, j1]) rfl ?_
          rw [HE.out]
          exact ⟨_, _, _, _, _, _, _, _, rfl, P1.out, HQ.out.2, (fun ad e => by injection e with e; subst e; exact HRR.out), P2.out, V2.out, (fun ad e => by injection e with e; subst e; exact Nat.le_succ _), M2.out.bel⟩
theorem udiv_any (A : Option Addr) (n c : Nat) (L : List RVal) (a : List Rat) (A' : Option Addr) (n' c' : Nat) (L' : List RVal) (b : List Rat) (w : World) (h : PSl w A n c L) (hv : Vs L a) (h' : PSl w A' n' c' L') (hv' : Vs L' b)
    (hn : n ≤ 100000) (hn' : n' ≤ 100000) (hl : b = [] ∨ coef b (b.length - 1) ≠ 0) : Calls Tryz.prog 81 #[.slice A n c, .slice A' n' c'] w (OutD (pdivO a b) w) := by
  have e2 : b.length = n' := by rw [← hv'.len, h'.len]
  rcases Nat.eq_zero_or_pos n' with h0 | h0
  · subst h0
    rw [show pdivO a b = .error 4 by unfold pdivO; rw [if_pos e2]]
    exact udiv_zero A n c A' c' w
  · refine udiv_go A n c L a A' n' c' L' b w h hv h' hv' hn hn' h0 ?_
    rcases hl with hl | hl
    · rw [hl] at e2; simp at e2; omega
    · exact hl
end Go.Proofs.YtjbnclfbkccieaaGreatDoor
namespace Go.Proofs.YtjbnclfbkccieaaGreatDoor
theorem sm_congr {f g : Nat → Rat} : ∀ {n : Nat}, (∀ i, i < n → f i = g i) → sm n f = sm n g
  | 0, _ => rfl
  | n + 1, h => by rw [sm, sm, sm_congr (fun i hi => h i (by omega)), h n (by omega)]
theorem sm_add (f g : Nat → Rat) : ∀ n, sm n (fun i => f i + g i) = sm n f + sm n g
  | 0 => by rw [sm, sm, sm]; grind
  | n + 1 => by rw [sm, sm, sm, sm_add f g n]; grind
theorem sm_mul (c : Rat) (f : Nat → Rat) : ∀ n, sm n (fun i => c * f i) = c * sm n f
  | 0 => by rw [sm, sm]; grind
  | n + 1 => by rw [sm, sm, sm_mul c f n]; grind
theorem sm_zero {f : Nat → Rat} {n : Nat} (h : ∀ i, i < n → f i = 0) : sm n f = 0 := by
  rw [sm_congr (g := fun _ => 0) h]
  induction n with
  | zero => rfl
  | succ n ih => rw [sm, ih (fun i hi => h i (by omega))]; grind
theorem sm_head (f : Nat → Rat) : ∀ n, sm (n + 1) f = f 0 + sm n (fun i => f (i + 1))
  | 0 => by rw [sm, sm, sm]; grind
  | n + 1 => by rw [sm, sm_head f n, sm]; grind
theorem sm_rev (f : Nat → Rat) : ∀ n, sm n f = sm n (fun i => f (n - 1 - i))
  | 0 => rfl
  | n + 1 => by
    rw [sm_head (fun i => f (n + 1 - 1 - i)) n, sm, sm_rev f n]
    rw [sm_congr (n := n) (g := fun i => f (n + 1 - 1 - (i + 1))) (fun i hi => by rw [show n - 1 - i = n + 1 - 1 - (i + 1) by omega])]
    rw [show n + 1 - 1 - 0 = n by omega]
    grind
theorem sm_more (f : Nat → Rat) (n : Nat) : ∀ k, (∀ i, n ≤ i → i < n + k → f i = 0) → sm (n + k) f = sm n f
  | 0, _ => rfl
  | k + 1, h => by
    rw [show n + (k + 1) = n + k + 1 by omega, sm, sm_more f n k (fun i a b => h i a (by omega)), h (n + k) (by omega) (by omega)]
    grind
/-- The triangle summed in both ways. -/
theorem sm_tri (f : Nat → Nat → Rat) : ∀ n, sm (n + 1) (fun i => sm (i + 1) (fun j => f j (i - j))) = sm (n + 1) (fun j => sm (n - j + 1) (fun m => f j m))
  | 0 => rfl
  | n + 1 => by
    rw [sm, sm_tri f n]
    rw [show sm (n + 1 + 1) (fun j => sm (n + 1 - j + 1) fun m => f j m) = sm (n + 1) (fun j => sm (n - j + 1) (fun m => f j m) + f j (n + 1 - j)) + f (n + 1) 0 from ?_]
    · rw [sm_add]
      have e : sm (n + 1 + 1) (fun j => f j (n + 1 - j)) = sm (n + 1) (fun j => f j (n + 1 - j)) + f (n + 1) 0 := by
        show sm (n + 1) _ + f (n + 1) (n + 1 - (n + 1)) = _
        rw [Nat.sub_self]
      rw [e]
      grind
    · show sm (n + 1) _ + sm (n + 1 - (n + 1) + 1) _ = _
      rw [Nat.sub_self]
      congr 1
      · refine sm_congr fun j hj => ?_
        rw [show n + 1 - j + 1 = n - j + 1 + 1 by omega, sm, show n - j + 1 = n + 1 - j by omega]
      · show 0 + f (n + 1) 0 = _
        grind
/-- The coefficients of a product. -/
def cv (a b : Nat → Rat) (k : Nat) : Rat := sm (k + 1) fun i => a i * b (k - i)
theorem cv_comm (a b : Nat → Rat) (k : Nat) : cv a b k = cv b a k := by
  unfold cv
  rw [sm_rev]
  refine sm_congr fun i hi => ?_
  rw [show k + 1 - 1 - i = k - i by omega, show k - (k - i) = i by omega]
  grind
theorem cv_congr {a a' b b' : Nat → Rat} {k : Nat} (ha : ∀ i, i ≤ k → a i = a' i) (hb : ∀ i, i ≤ k → b i = b' i) : cv a b k = cv a' b' k := by
  unfold cv
  exact sm_congr fun i hi => by rw [ha i (by omega), hb (k - i) (by omega)]
theorem cv_add (a b c : Nat → Rat) (k : Nat) : cv a (fun i => b i + c i) k = cv a b k + cv a c k := by
  unfold cv
  rw [← sm_add]
  exact sm_congr fun i _ => by grind
theorem cv_assoc (a b c : Nat → Rat) (k : Nat) : cv (cv a b) c k = cv a (cv b c) k := by
  have e1 : cv (cv a b) c k = sm (k + 1) (fun i => sm (i + 1) (fun j => a j * b (i - j) * c (k - i))) := by
    unfold cv
    refine sm_congr fun i _ => ?_
    rw [show sm (i + 1) (fun j => a j * b (i - j) * c (k - i)) = sm (i + 1) (fun j => c (k - i) * (a j * b (i - j))) from sm_congr fun j _ => by grind, sm_mul]
    grind
  have e2 : sm (k + 1) (fun i => sm (i + 1) (fun j => a j * b (i - j) * c (k - i))) = sm (k + 1) (fun i => sm (i + 1) (fun j => (fun j m => a j * b m * c (k - (j + m))) j (i - j))) := by
    refine sm_congr fun i _ => sm_congr fun j hj => ?_
    show _ = a j * b (i - j) * c (k - (j + (i - j)))
    rw [show j + (i - j) = i by omega]
  rw [e1, e2, sm_tri (fun j m => a j * b m * c (k - (j + m)))]
  unfold cv
  refine sm_congr fun j hj => ?_
  rw [← sm_mul]
  refine sm_congr fun m hm => ?_
  rw [show k - (j + m) = k - j - m by omega]
  grind
theorem coef_nil (i : Nat) : coef [] i = 0 := rfl
theorem coef_succ (a : Rat) (p : List Rat) (i : Nat) : coef (a :: p) (i + 1) = coef p i := by unfold coef; rw [List.getD_eq_getElem?_getD, List.getElem?_cons_succ, ← List.getD_eq_getElem?_getD]
theorem coef_past {p : List Rat} {i : Nat} (h : p.length ≤ i) : coef p i = 0 := by unfold coef; rw [List.getD_eq_getElem?_getD, List.getElem?_eq_none h]; rfl
theorem ptrim_coef : ∀ (p : List Rat) (i : Nat), coef (ptrim p) i = coef p i
  | [], _ => rfl
  | a :: p, i => by
    have ih := ptrim_coef p
    rw [ptrim]
    split
    · rename_i h
      rw [h] at ih
      split
      · rename_i h0
        have : a = 0 := Rat.num_eq_zero.1 h0
        subst this
        cases i with
        | zero => rfl
        | succ i => rw [coef_succ, ← ih i]; rfl
      · cases i with
        | zero => rfl
        | succ i => rw [coef_succ, coef_succ, ih i]
    · rename_i b q h
      rw [h] at ih
      cases i with
      | zero => rfl
      | succ i => rw [coef_succ, coef_succ, ih i]
theorem ptrim_zero : ∀ {p : List Rat}, (∀ i, coef p i = 0) → ptrim p = []
  | [], _ => rfl
  | a :: p, h => by
    rw [ptrim, ptrim_zero (p := p) fun i => by have := h (i + 1); rwa [coef_succ] at this]
    have : a = 0 := h 0
    subst this
    rfl
/-- Trimmed lists with the same coefficients are the same. -/
theorem ptrim_ext : ∀ {p q : List Rat}, (∀ i, coef p i = coef q i) → ptrim p = ptrim q
  | [], q, h => (ptrim_zero fun i => (h i).symm.trans (coef_nil i)).symm
  | a :: p, [], h => ptrim_zero fun i => (h i).trans (coef_nil i)
  | a :: p, b :: q, h => by
    have e : a = b := h 0
    subst e
    rw [ptrim, ptrim, ptrim_ext (p := p) (q := q) fun i => by have := h (i + 1); rwa [coef_succ, coef_succ] at this]
theorem ptrim_idem (p : List Rat) : ptrim (ptrim p) = ptrim p := ptrim_ext (ptrim_coef p)
theorem ptrim_len : ∀ p : List Rat, (ptrim p).length ≤ p.length
  | [] => Nat.le_refl _
  | a :: p => by
    have ih := ptrim_len p
    rw [ptrim]
    split
    · split
      · exact Nat.zero_le _
      · show 1 ≤ p.length + 1; omega
    · rename_i b q h
      rw [h] at ih
      show (b :: q).length + 1 ≤ p.length + 1
      omega
theorem ptrim_self {p q : List Rat} (hp : ptrim p = p) (hq : ptrim q = q) (h : ∀ i, coef p i = coef q i) : p = q := by rw [← hp, ← hq]; exact ptrim_ext h
/-- The derivative's coefficients. -/
def dv (a : Nat → Rat) (i : Nat) : Rat := ((i + 1 : Nat) : Rat) * a (i + 1)
theorem coef_map_range (n : Nat) (f : Nat → Rat) (i : Nat) : coef ((List.range n).map f) i = if i < n then f i else 0 := by
  unfold coef
  rw [List.getD_eq_getElem?_getD, List.getElem?_map]
  split
  · rename_i h; rw [List.getElem?_range h]; rfl
  · rename_i h; rw [List.getElem?_eq_none (by rw [List.length_range]; omega)]; rfl
end Go.Proofs.YtjbnclfbkccieaaGreatDoor
