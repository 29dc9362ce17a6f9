/-
  The walks of trim.
-/
import Derived.Test.YtalgcppogjpilaaRow
namespace Go.Proofs.Ytalgcppogjpilaa
open Go.RowKit

set_option maxHeartbeats 400000 in
theorem trim_any (A : Option Addr) (n c B : Nat) (xs : List Nat) (w : World) (h : Sl w B A n c xs) :
    Calls Try.prog 82 #[.slice A n c] w fun e w' => (∃ k, k ≤ n ∧ e = .returned (.slice A k c) ∧ Nz (xs.take k) ∧ val (xs.take k) = val xs) ∧ w = w' := by
  have hc := h.cap
  have hr := h.reach
  have hcr := h.capr
  have hl := h.len
  go_enter Try.func82, Try.ntmps82
  go_wp2
  go_loop [3] (fun i => ∃ k : Nat, k ≤ n ∧ i = .int .i64 k ∧ val (xs.take k) = val xs) (fun i => (intOf i).toNat)
  case atStart => exact ⟨n, Nat.le_refl _, rfl, by rw [List.take_of_length_le (by omega)]⟩
  case round =>
    obtain ⟨k, hk, rfl, hv⟩ := hrel
    have HV := Lib.hid hv
    clear hv hl
    rcases k with _ | k
    · go_wp2
      go_ret
      exact ⟨⟨0, by omega, rfl, nz_take (.inl rfl), HV.out⟩, rfl⟩
    · obtain ⟨ad, rfl, hb, hcell⟩ := h.cell (k := k) (by omega)
      go_wp2
      · have h0 : ((lim xs k : Nat) == (0 : Int)) = true := by assumption
        go_round
        case rel => exact ⟨k, by omega, rfl, by rw [← HV.out, val_drop_last]; simpa using h0⟩
        case measure => simp [intOf]
      · have h0 : ((lim xs k : Nat) == (0 : Int)) = false := by assumption
        go_ret
        exact ⟨⟨k + 1, by omega, rfl, nz_take (.inr ⟨by rw [h.len]; omega, by simpa using h0⟩), HV.out⟩, rfl⟩

end Go.Proofs.Ytalgcppogjpilaa
