/-
  The reference's bit.
-/
import Derived.Test.YtalgcppogjpilaaRefRight
namespace Go.Proofs.Ytalgcppogjpilaa
open Go.RowKit

theorem bit_limb (a D t : Nat) (ht : t < 32) : (a + 4294967296 * D) / 2 ^ t % 2 = a / 2 ^ t % 2 := by
  have e : 4294967296 * D = 2 ^ t * (2 * (2 ^ (31 - t) * D)) := by
    rw [show (4294967296 : Nat) = 2 ^ t * 2 * 2 ^ (31 - t) by
      rw [← Nat.pow_succ, ← Nat.pow_add, show t + 1 + (31 - t) = 32 by omega]]
    rw [Nat.mul_assoc, Nat.mul_assoc]
  rw [e, Nat.add_mul_div_left _ _ (Nat.pow_pos (by decide)), Nat.add_mul_mod_self_left]
theorem bit_in {xs : List Nat} {i k t : Nat} (hx : Ok xs) (hi : i = 32 * k + t) (ht : t < 32) (hk : k < xs.length) : val xs / 2 ^ i % 2 = lim xs k / 2 ^ t % 2 := by
  have a := val_lt (hx.take k)
  rw [List.length_take, Nat.min_eq_left (Nat.le_of_lt hk)] at a
  have e : val xs = val (xs.take k) + 4294967296 ^ k * val (xs.drop k) := by
    rw [← List.take_append_drop k xs, val_app, List.take_append_drop, List.length_take, Nat.min_eq_left (Nat.le_of_lt hk)]
  rw [hi, Nat.pow_add, ← Nat.div_div_eq_div_mul, show (2 : Nat) ^ (32 * k) = 4294967296 ^ k by rw [Nat.pow_mul], e, Nat.add_mul_div_left _ _ (Nat.pow_pos (by decide)), Nat.div_eq_of_lt a, Nat.zero_add, val_drop xs k hk]
  exact bit_limb _ _ _ ht
theorem bit_out {xs : List Nat} {i k : Nat} (hx : Ok xs) (hi : 32 * k ≤ i) (hk : xs.length ≤ k) : val xs / 2 ^ i % 2 = 0 := by
  have a := val_lt hx
  have b : 4294967296 ^ xs.length ≤ 2 ^ i := by
    rw [show (4294967296 : Nat) = 2 ^ 32 by decide, ← Nat.pow_mul]
    exact Nat.pow_le_pow_right (by decide) (by omega)
  rw [Nat.div_eq_of_lt (Nat.lt_of_lt_of_le a b)]

set_option maxHeartbeats 400000 in
theorem rbit_any (A : Option Addr) (n c B i k t v : Nat) (xs : List Nat) (w : World) (h : Sl w B A n c xs) (hi : i ≤ 1000000) (hl : (i : Int) / 32 = (k : Int)) (ht : (i : Int) % 32 = (t : Int)) (hv : val xs / 2 ^ i % 2 = v) :
    Calls Try.prog 69 #[.slice A n c, .int .i64 (i : Int)] w fun e w' => e = .returned (.int .u32 (v : Int)) ∧ w' = w := by
  have hcap := h.cap
  have hcr := h.capr
  have Hl := Lib.hid h.len
  by_cases hk : k < n
  · have Hv := Lib.hid (bit_in h.ok (show i = 32 * k + t by omega) (by omega) (by rw [h.len]; exact hk))
    have HV := Lib.hid hv
    clear hv
    obtain ⟨ad, rfl, hadb, hc1⟩ := h.cell (k := k) hk
    have hx1 := h.ok.lim k
    go_enter Try.func69, Try.ntmps69
    go_wp2
    have e : bits BinOp.and IntKind.u32 ((lim xs k : Int) / 2 ^ t) 1 = (v : Int) := by
      have q : lim xs k / 2 ^ t ≤ lim xs k := Nat.div_le_self _ _
      rw [show ((lim xs k : Int) / 2 ^ t) = ((lim xs k / 2 ^ t : Nat) : Int) by rw [Int.natCast_ediv, Int.natCast_pow]; rfl]
      have r := u32_and_nat (lim xs k / 2 ^ t) 1 (by omega) (by decide)
      rw [Nat.and_one_is_mod, ← Hv.out, HV.out] at r
      exact r
    rw [e]
    go_ret
    exact ⟨rfl, rfl⟩
  · have Hv := Lib.hid (bit_out (k := k) h.ok (show 32 * k ≤ i by omega) (by rw [h.len]; omega))
    obtain rfl : v = 0 := by rw [← hv]; exact Hv.out
    clear hv
    go_enter Try.func69, Try.ntmps69
    go_wp2
    go_ret
    exact ⟨rfl, rfl⟩

end Go.Proofs.Ytalgcppogjpilaa
