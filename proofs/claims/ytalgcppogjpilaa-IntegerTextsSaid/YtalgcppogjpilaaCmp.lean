/-
  The walks of cmpMag and of the reference's order.
-/
import Derived.Test.YtalgcppogjpilaaAdd
namespace Go.Proofs.Ytalgcppogjpilaa
open Go.RowKit

set_option maxHeartbeats 1000000 in
theorem cmpMag_any (A A' : Option Addr) (n c n' c' B B' : Nat) (xs ys : List Nat) (w : World) (h : Sl w B A n c xs) (h' : Sl w B' A' n' c' ys) (hx : Nz xs) (hy : Nz ys) :
    Calls Try.prog 72 #[.slice A n c, .slice A' n' c'] w fun e w' => e = .returned (.int .i64 (cmpv (val xs) (val ys))) ∧ ∃ k, w' = w.drewN k := by
  have hr := h.reach
  have hcr := h.capr
  have hc := h.cap
  have hr' := h'.reach
  have hcr' := h'.capr
  have hc' := h'.cap
  by_cases hlen : n = n'
  · subst hlen
    have hlx := h.len
    have hly := h'.len
    have Hlx := Lib.hid hlx
    have Hly := Lib.hid hly
    clear hlx hly
    have hb : ((n : Int) != (n : Int)) = false := by simp
    go_enter Try.func72, Try.ntmps72
    go_wp2
    go_loopw [20] (fun iv wr => ∃ k q : Nat, k ≤ n ∧ iv = .int .i64 k ∧ wr = w.drewN q ∧ Hid (val (xs.drop (n - k)) = val (ys.drop (n - k)))) (fun iv _ => n - (intOf iv).toNat)
    case atStart => exact ⟨0, 0, by omega, rfl, rfl, by rw [Hid, List.drop_of_length_le (by rw [Hlx.out]; omega), List.drop_of_length_le (by rw [Hly.out]; omega)]⟩
    case round =>
      obtain ⟨k, q, hk, rfl, rfl, Hd⟩ := hrel
      by_cases hkn : k < n
      · obtain ⟨j, hj⟩ : ∃ j, j = n - 1 - k := ⟨_, rfl⟩
        have Hj := Lib.hid (show j + 1 = n - k by omega)
        obtain ⟨ad, rfl, _, hc1⟩ := h.cell (k := j) (by omega)
        obtain ⟨ad', rfl, _, hc2⟩ := h'.cell (k := j) (by omega)
        have i1 : (0 : Int) ≤ (n : Int) - 1 - (k : Int) := by omega
        have i2 : (n : Int) - 1 - (k : Int) < (n : Int) := by omega
        have i3 : ((n : Int) - 1 - (k : Int)).toNat = j := by omega
        have hdj : val (xs.drop (j + 1)) = val (ys.drop (j + 1)) := by rw [Hj.out]; exact Hd.out
        have Hdj := Lib.hid hdj
        have HJ := Lib.hid hj
        clear hj hdj
        go_wp2_with fail
        go_quiet (fail)
        go_wp2
        · have ht : lim xs j < lim ys j := by assumption
          rw [cmpv_lt (lt_of_limb h.ok (by rw [Hlx.out]; omega) (by rw [Hly.out]; omega) Hdj.out ht)]
          go_ret
          exact ⟨rfl, _, rfl⟩
        · have ht : lim ys j < lim xs j := by assumption
          rw [cmpv_gt (lt_of_limb h'.ok (by rw [Hly.out]; omega) (by rw [Hlx.out]; omega) Hdj.out.symm ht)]
          go_ret
          exact ⟨rfl, _, rfl⟩
        · have h1 : ¬lim xs j < lim ys j := by assumption
          have h2 : ¬lim ys j < lim xs j := by assumption
          have e := drop_eq_step (by rw [Hlx.out]; omega) (by rw [Hly.out]; omega) Hdj.out (show lim xs j = lim ys j by omega)
          exact ⟨⟨k + 1, _, by omega, by go_num, rfl, by rw [Hid, show n - (k + 1) = j from by have := HJ.out; omega]; exact e⟩, by simp [intOf]; omega⟩
      · have e : val xs = val ys := by
          have := Hd.out
          rw [show n - k = 0 by omega] at this
          exact this
        have Hf := Lib.hid (show cmpv (val xs) (val ys) = 0 by rw [e]; exact cmpv_eq _)
        clear e
        go_wp2
        rw [Hf.out]
        go_ret
        exact ⟨rfl, _, rfl⟩
  · by_cases hlt : n < n'
    · have Hf := Lib.hid (cmpv_lt (val_lt_of_length h.ok hy (by rw [h.len, h'.len]; exact hlt)))
      have hb : ((n : Int) != (n' : Int)) = true := by rw [bne_iff_ne]; omega
      have ht : (n : Int) < (n' : Int) := by omega
      go_enter Try.func72, Try.ntmps72
      go_wp2
      rw [Hf.out]
      go_ret
      exact ⟨rfl, 0, rfl⟩
    · have Hf := Lib.hid (cmpv_gt (val_lt_of_length h'.ok hx (by rw [h.len, h'.len]; omega)))
      have hb : ((n : Int) != (n' : Int)) = true := by rw [bne_iff_ne]; omega
      have ht : (n' : Int) ≤ (n : Int) := by omega
      go_enter Try.func72, Try.ntmps72
      go_wp2
      rw [Hf.out]
      go_ret
      exact ⟨rfl, 0, rfl⟩

end Go.Proofs.Ytalgcppogjpilaa
