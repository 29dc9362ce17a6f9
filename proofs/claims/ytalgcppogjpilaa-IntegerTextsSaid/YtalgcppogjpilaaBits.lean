/-
  The number of binary digits; the walks of bitsMag and of the reference's digits.
-/
import Derived.Test.YtalgcppogjpilaaShelf
import Derived.Test.YtalgcppogjpilaaShr
namespace Go.Proofs.Ytalgcppogjpilaa
open Go.RowKit

/-- The number of binary digits. -/
def nbits (N : Nat) : Nat := if N = 0 then 0 else Nat.log2 N + 1
theorem nbits_zero : nbits 0 = 0 := rfl
theorem nbits_lt (N : Nat) : N < 2 ^ nbits N := by
  unfold nbits
  split
  · rename_i h; subst h; decide
  · exact Nat.lt_log2_self
theorem nbits_ge {N : Nat} (h : N ≠ 0) : 2 ^ (nbits N - 1) ≤ N := by
  unfold nbits
  rw [if_neg h, Nat.add_sub_cancel]
  exact Nat.log2_self_le h
theorem nbits_pos {N : Nat} (h : N ≠ 0) : 0 < nbits N := by unfold nbits; rw [if_neg h]; omega
theorem nbits_uniq {N k : Nat} (h1 : 2 ^ k ≤ N) (h2 : N < 2 ^ (k + 1)) : nbits N = k + 1 := by
  have h0 : N ≠ 0 := by have : 0 < 2 ^ k := Nat.pow_pos (by decide); omega
  have a := nbits_lt N
  have b := nbits_ge h0
  have p := nbits_pos h0
  have c : k < nbits N := (Nat.pow_lt_pow_iff_right (a := 2) (by decide)).1 (Nat.lt_of_le_of_lt h1 a)
  have d : nbits N - 1 < k + 1 := (Nat.pow_lt_pow_iff_right (a := 2) (by decide)).1 (Nat.lt_of_le_of_lt b h2)
  omega
theorem nbits_le_iff (N k : Nat) : nbits N ≤ k ↔ N < 2 ^ k := by
  constructor
  · intro h; exact Nat.lt_of_lt_of_le (nbits_lt N) (Nat.pow_le_pow_right (by decide) h)
  · intro h
    rcases Nat.eq_zero_or_pos N with e | e
    · rw [e, nbits_zero]; omega
    · have b := nbits_ge (N := N) (by omega)
      have d : nbits N - 1 < k := (Nat.pow_lt_pow_iff_right (a := 2) (by decide)).1 (Nat.lt_of_le_of_lt b h)
      omega
theorem nbits_half {N : Nat} (h : N ≠ 0) : nbits N = 1 + nbits (N / 2) := by
  unfold nbits
  rw [if_neg h]
  by_cases h2 : N / 2 = 0
  · rw [if_pos h2]
    have : N = 1 := by omega
    subst this; rfl
  · rw [if_neg h2, Nat.log2_def N, if_pos (by omega)]
    omega
theorem nbits_word (x : Nat) (h : x < 18446744073709551616) : Lib.bitLen x = nbits x := by
  induction x using Nat.strongRecOn with
  | _ x ih =>
    by_cases h0 : x = 0
    · subst h0; rfl
    · rw [Lib.bitLen_half x h0 h, nbits_half h0, ih (x / 2) (by omega) (by omega)]
/-- The digits of a number are those of its top limb behind 32 for each limb below. -/
theorem nbits_top {L t k : Nat} (hL : L < 4294967296 ^ k) (ht : t ≠ 0) : nbits (L + 4294967296 ^ k * t) = 32 * k + nbits t := by
  have a := nbits_lt t
  have b := nbits_ge ht
  have p := nbits_pos ht
  have e : (4294967296 : Nat) ^ k = 2 ^ (32 * k) := by rw [show (4294967296 : Nat) = 2 ^ 32 by decide, ← Nat.pow_mul]
  rw [show 32 * k + nbits t = (32 * k + (nbits t - 1)) + 1 by omega]
  apply nbits_uniq
  · rw [Nat.pow_add, ← e]
    exact Nat.le_trans (Nat.mul_le_mul_left _ b) (by omega)
  · rw [show 32 * k + (nbits t - 1) + 1 = 32 * k + nbits t by omega, Nat.pow_add, ← e]
    have : 4294967296 ^ k * (t + 1) ≤ 4294967296 ^ k * 2 ^ nbits t := Nat.mul_le_mul_left _ a
    rw [Nat.mul_add] at this
    omega
theorem nbits_val {xs : List Nat} {m : Nat} (hx : Ok xs) (nx : Nz xs) (hl : xs.length = m + 1) : nbits (val xs) = 32 * m + nbits (lim xs m) := by
  have e := val_take_succ xs m
  rw [List.take_of_length_le (by omega)] at e
  have hne : xs ≠ [] := by rintro rfl; simp at hl
  have ht := (nz_iff hne).1 nx
  rw [hl, Nat.add_sub_cancel] at ht
  have hL := val_lt (hx.take m)
  rw [List.length_take, Nat.min_eq_left (by omega)] at hL
  rw [e]
  exact nbits_top hL ht
theorem nbits_limb {x : Nat} (h : x < 4294967296) : nbits x ≤ 32 := (nbits_le_iff x 32).2 h

set_option maxHeartbeats 400000 in
theorem bitsMag_any (A : Option Addr) (n c B : Nat) (xs : List Nat) (w : World) (h : Sl w B A n c xs) (hx : Nz xs) (hn : n ≤ 1000000) :
    Calls Try.prog 76 #[.slice A n c] w fun e w' => e = .returned (.int .i64 (nbits (val xs) : Nat)) ∧ w = w' := by
  have hcap := h.cap
  have hcr := h.capr
  rcases n with _ | m
  · obtain rfl : xs = [] := List.eq_nil_of_length_eq_zero h.len
    go_enter Try.func76, Try.ntmps76
    go_wp2
    go_ret
    exact ⟨rfl, rfl⟩
  · have Hv := Lib.hid (nbits_val h.ok hx h.len)
    have hx1 := h.ok.lim m
    have Hb := Lib.hid (nbits_word (lim xs m) (by omega))
    have hb1 := nbits_limb hx1
    obtain ⟨ad, rfl, hadb, hc1⟩ := h.cell (k := m) (by omega)
    have i4 : (((m + 1 : Nat) : Int) == 0) = false := by rw [beq_eq_false_iff_ne]; omega
    have i1 : ((m + 1 : Nat) : Int) - 1 = (m : Int) := by omega
    have i2 : (m : Int) < ((m + 1 : Nat) : Int) := by omega
    go_enter Try.func76, Try.ntmps76
    go_wp2_with fail
    refine (Try.bits_Len32 _ _ (by omega) (by omega)).mono ?_
    rintro e w' ⟨rfl, rfl⟩
    rw [show ((lim xs m : Nat) : Int).toNat = lim xs m by omega, Hb.out]
    go_wp2
    go_ret
    exact ⟨ret_int (by rw [Hv.out]; omega), rfl⟩

set_option maxHeartbeats 400000 in
theorem rdigits_any (A : Option Addr) (n c B : Nat) (xs : List Nat) (w : World) (h : Sl w B A n c xs) (hx : Nz xs) (hn : n ≤ 1000000) :
    Calls Try.prog 74 #[.slice A n c] w fun e w' => e = .returned (.int .i64 (nbits (val xs) : Nat)) ∧ w = w' := by
  have hcap := h.cap
  have hcr := h.capr
  rcases n with _ | m
  · obtain rfl : xs = [] := List.eq_nil_of_length_eq_zero h.len
    go_enter Try.func74, Try.ntmps74
    go_wp2
    go_ret
    exact ⟨rfl, rfl⟩
  · have Hv := Lib.hid (nbits_val h.ok hx h.len)
    have hx1 := h.ok.lim m
    have hb1 := nbits_limb hx1
    obtain ⟨ad, rfl, hadb, hc1⟩ := h.cell (k := m) (by omega)
    have i4 : (((m + 1 : Nat) : Int) == 0) = false := by rw [beq_eq_false_iff_ne]; omega
    have i1 : ((m + 1 : Nat) : Int) - 1 = (m : Int) := by omega
    have i2 : (m : Int) < ((m + 1 : Nat) : Int) := by omega
    go_enter Try.func74, Try.ntmps74
    go_wp2
    go_loop [3, 4] (fun nv tv => ∃ k t : Nat, tv = .int .u32 t ∧ t < 4294967296 ∧ nv = .int .i64 (32 * m + k : Nat) ∧ Hid (k + nbits t = nbits (lim xs m))) (fun _ tv => (intOf tv).toNat)
    case atStart => exact ⟨0, lim xs m, rfl, hx1, by go_num, by rw [Hid, Nat.zero_add]⟩
    case round =>
      obtain ⟨k, t, rfl, ht, rfl, Hk⟩ := hrel
      by_cases h0 : t = 0
      · subst h0
        have Hk' := Lib.hid (show k = nbits (lim xs m) from Hk.out)
        go_wp2
        go_ret
        exact ⟨ret_int (by rw [Hv.out, Hk'.out]; omega), rfl⟩
      · have hp : 0 < (t : Int) := by omega
        have Hh := Lib.hid (nbits_half h0)
        have hk : k ≤ 32 := by have := Hk.out; omega
        go_wp2
        go_round
        case rel => exact ⟨k + 1, t / 2, by go_num, by omega, by go_num, by have := Hk.out; have := Hh.out; rw [Hid]; omega⟩
        case measure => simp [intOf]; omega

end Go.Proofs.Ytalgcppogjpilaa
