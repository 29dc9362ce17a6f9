/-
  Stage 3: the laws' ones and power.
-/
import Derived.Test.YtjbnclfbkccieaaGreatDoorBehind3
import Derived.Test.YtjbnclfbkccieaaGreatDoorLwB
import Derived.Test.YtjbnclfbkccieaaGreatDoorPolXp
namespace Go.Proofs.YtjbnclfbkccieaaGreatDoor
open Go.RowKit
def PwR (w : World) (n k r : Nat) (wr : World) : Prop := ∃ R : List RVal, Mem w wr [.arr r R] ∧ Fill R (List.replicate k 0) (n + 1)
set_option linter.unusedSimpArgs false in
set_option linter.unusedVariables false in
set_option maxRecDepth 20000 in
set_option maxHeartbeats 4000000 in
theorem power_any (n : Nat) (w : World) (hn : n ≤ 100) : Calls Tryz.prog 25 #[.int .i64 n] w (RetL (xp n) w) := by
  have hmk : (Instr.makeSlice 22 (.int .i64 ((n : Int) + 1)) (.int .i64 ((n : Int) + 1))).run Tryz.prog w = .ok (.slice (some ⟨w.heap.size, 0, none⟩) (n + 1) (n + 1)) (w.alloc (.cells (nils (n + 1)) 27)) := by
    have := make_rats w (n + 1) (by omega)
    rwa [Int.natCast_succ] at this
  have H0 := hI (show PwR w n 0 w.heap.size (w.alloc (.cells (nils (n + 1)) 27)) from ⟨_, (Mem.nil w).newRow (n + 1) _ rfl, Fill.nil (n + 1)⟩)
  go_enter Tryz.func25, Tryz.ntmps25
  go_wp2_with fail
  clear hmk
  go_loopw [4] (fun v wr => ∃ k : Nat, v = .int .i64 k ∧ k ≤ n ∧ Hid (PwR w n k w.heap.size wr)) (fun v _ => n - (intOf v).toNat)
  case atStart => exact ⟨0, rfl, Nat.zero_le _, H0⟩
  case round =>
    obtain ⟨k, rfl, hk, HR⟩ := hrel
    clear H0
    obtain ⟨R, HR⟩ := HR.out
    have HR := hI HR
    have HRn := hI (show R.length = n + 1 from HR.out.2.1)
    by_cases hlt : k < n
    · have HRl := hI (show k < R.length by rw [HRn.out]; omega)
      go_wp2_with fail
      refine (lnumber_any 0 wr (by decide) (by decide)).mono ?_
      rintro e w1 ⟨q, rfl, hq, hv, hb⟩
      have M1 := hI ((HR.out.1.on hb).addRat hq)
      have HV := hI hv
      clear hq hv hb
      obtain ⟨⟨c0, c1, c2, c3⟩, f0, f1, f2, f3⟩ := M1.out.rowAt 1 rfl (List.getElem?_eq_getElem HRl.out)
      go_wp2
      clear c0 c1 c2 c3 f0 f1 f2 f3
      generalize hU : World.setCell (World.setCell (World.setCell (World.setCell w1 _ _) _ _) _ _) _ _ = U
      have M4 := hI ((M1.out.putRowU 1 rfl HRl.out (M1.out.rat 0 rfl) hU).drop 1)
      have HR2 := hI (show PwR w n (k + 1) w.heap.size U from ⟨R.set k q, M4.out, by
        have := HR.out.2.put (q := q) (x := 0) (by rw [List.length_replicate]; omega) HV.out
        rw [List.length_replicate] at this
        rw [List.replicate_succ']
        exact this⟩)
      clear hU M1 M4 HR HV HRn HRl
      go_roundw
      case rel => exact ⟨k + 1, by go_num, by omega, HR2⟩
      case measure => simp [intOf]; omega
    · have e : k = n := by omega
      subst e
      have HRl := hI (show k < R.length by rw [HRn.out]; omega)
      clear hlt
      go_wp2_with fail
      refine (lnumber_any 1 wr (by decide) (by decide)).mono ?_
      rintro e w1 ⟨q, rfl, hq, hv, hb⟩
      have M1 := hI ((HR.out.1.on hb).addRat hq)
      have HV := hI hv
      clear hq hv hb
      obtain ⟨⟨c0, c1, c2, c3⟩, f0, f1, f2, f3⟩ := M1.out.rowAt 1 rfl (List.getElem?_eq_getElem HRl.out)
      go_wp2
      clear c0 c1 c2 c3 f0 f1 f2 f3
      generalize hU : World.setCell (World.setCell (World.setCell (World.setCell w1 _ _) _ _) _ _) _ _ = U
      have M4 := hI ((M1.out.putRowU 1 rfl HRl.out (M1.out.rat 0 rfl) hU).drop 1)
      go_ret
      have HF := HR.out.2.put (q := q) (x := 1) (by rw [List.length_replicate]; omega) HV.out
      rw [List.length_replicate] at HF
      have hl : (List.replicate k (0 : Rat) ++ [1]).length = k + 1 := by rw [List.length_append, List.length_replicate]; rfl
      have hd := HF.done hl
      have hx := xp_eq k
      have hR : (R.set k q).length = k + 1 := HF.1
      have hp := psl_arr (M4.out.arr 0 rfl) (by rw [hR]; omega)
      rw [hR] at hp
      exact ⟨_, _, _, rfl, ⟨_, hp, by rw [hx]; exact hd⟩, M4.out.bel⟩
def OnR (w : World) (k : Nat) (v : Value) (wr : World) : Prop := Below w.heap.size w wr ∧ ∃ L, OwnQ wr w.heap.size v L ∧ Vs L (List.replicate k 1)
set_option linter.unusedSimpArgs false in
set_option linter.unusedVariables false in
set_option maxRecDepth 20000 in
set_option maxHeartbeats 4000000 in
theorem ones_any (n : Nat) (w : World) (hn : n ≤ 100) : Calls Tryz.prog 23 #[.int .i64 n] w (RetL (List.replicate n 1) w) := by
  have H0 := hI (show OnR w 0 (.slice none 0 0) w from ⟨Below.refl _ _, [], ⟨OwnC.nil _ _ _ _, fun _ k => (nomatch k)⟩, rfl⟩)
  go_enter Tryz.func23, Tryz.ntmps23
  go_wp2_with fail
  go_loopw [3, 4] (fun x v wr => ∃ k : Nat, v = .int .i64 k ∧ k ≤ n ∧ Hid (OnR w k x wr)) (fun _ v _ => n - (intOf v).toNat)
  case atStart => exact ⟨0, rfl, Nat.zero_le _, H0⟩
  case round =>
    obtain ⟨k, rfl, hk, HR1⟩ := hrel
    obtain ⟨v5, hv5⟩ : ∃ x : Value, u3 = x := ⟨_, rfl⟩
    rw [hv5] at HR1
    have HR := hI HR1.out
    clear H0 HR1
    subst hv5
    by_cases hlt : k < n
    · obtain ⟨L, HL⟩ := HR.out.2
      have HL := hI HL
      go_wp2_with fail
      refine (lnumber_any 1 wr (by decide) (by decide)).mono ?_
      rintro e w1 ⟨q, rfl, hq, hv, hb⟩
      have HB := hI (below_chain HR.out.1 HR.out.1.size hb)
      have HO := hI (HL.out.1.on hb)
      have HQ := hI (And.intro hq hv)
      have hn1 := below_new w1 (.cells #[.bool q.g, .slice q.A q.n q.c, .bool q.gd, .slice q.Ad q.nd q.cd] 27)
      have HO2 := hI (HO.out.on hn1)
      have HQ2 := hI (HQ.out.1.on hn1)
      have HB2 := hI (below_chain HB.out HB.out.size hn1)
      have HN := hI (Blk.new w1 27 #[.bool q.g, .slice q.A q.n q.c, .bool q.gd, .slice q.Ad q.nd q.cd])
      have HLl := hI (show L.length ≤ 100000 by rw [HL.out.2.len, List.length_replicate]; omega)
      clear hq hv hb hn1
      go_wp2_with (at_builtin; refine rats_app rfl _ _ rfl w1.heap.size q HO2.out rfl rfl HN.out HQ2.out HLl.out HB2.out.size ?_; intro v' w' ho hg hge)
      have HR2 := hI (show OnR w (k + 1) v' w' from ⟨HB2.out.grown hg HB2.out.size (fun g e => hge g e), L ++ [q], ho, by
        have h1 := HL.out.2
        have h2 : q.v = some ((1 : Int) : Rat) := HQ.out.2
        unfold Vs at *
        rw [List.replicate_succ', List.map_append, List.map_append, h1, List.map_singleton, List.map_singleton, h2]
        rfl⟩)
      clear ho hg hge
      go_wp2
      go_roundw
      case rel => exact ⟨k + 1, by go_num, by omega, HR2⟩
      case measure => simp [intOf]; omega
    · have e : k = n := by omega
      subst e
      obtain ⟨L, ho, hv⟩ := HR.out.2
      obtain ⟨A, c, rfl, hp⟩ := ownq_pv ho hv (by rw [List.length_replicate]; omega)
      have HP := hI hp
      have HB := hI HR.out.1
      clear ho hv hp HR hlt
      go_wp2
      go_ret
      exact ⟨A, _, c, rfl, HP.out, HB.out⟩
theorem chk_big {L : List RVal} {l : List Rat} {w : World} {A : Option Addr} {n c : Nat} (h : PSl w A n c L) (hv : Vs L l) (ht : Tr l) (hl : 65 < l.length) : chkE L = 2 := by
  have hL := hv.len
  rw [chk_all (fun j q hj hq => by rw [hv.at_ hq]; rfl), if_neg, if_pos (by omega)]
  rintro ⟨h0, h1⟩
  obtain ⟨q, hq⟩ : ∃ q, L[L.length - 1]? = some q := ⟨_, List.getElem?_eq_getElem (by omega)⟩
  rw [getD_some hq] at h1
  have hn := n_zero (h.ins q (List.mem_of_getElem? hq)) (hv.at_ hq)
  rw [decide_eq_true h1] at hn
  have h2 := of_decide_eq_true hn.symm
  rcases ht with ht | ht
  · rw [ht] at hl; simp at hl
  · rw [← hL] at ht; exact ht (Rat.num_eq_zero.1 h2)
theorem ones_tr (n : Nat) : Tr (List.replicate n (1 : Rat)) := by
  cases n with
  | zero => exact Or.inl rfl
  | succ n =>
    refine Or.inr ?_
    unfold coef
    rw [List.length_replicate, List.getD_eq_getElem?_getD, List.getElem?_replicate]
    simp
end Go.Proofs.YtjbnclfbkccieaaGreatDoor
