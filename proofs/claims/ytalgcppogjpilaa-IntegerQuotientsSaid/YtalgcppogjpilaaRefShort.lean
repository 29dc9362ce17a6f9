/-
  The reference's short: a division by one limb.
-/
import Derived.Test.YtalgcppogjpilaaRefBit
namespace Go.Proofs.Ytalgcppogjpilaa
open Go.RowKit

theorem short_step {d Z r l T X : Nat} (hT : T = 4294967296 * r + l) (hX : X = d * Z + r) : l + 4294967296 * X = d * (T / d + 4294967296 * Z) + T % d := by
  have e := Nat.div_add_mod T d
  rw [hX, Nat.mul_add, Nat.mul_add, Nat.mul_left_comm]
  generalize d * Z = a at *
  generalize d * (T / d) = b at *
  omega
theorem short_rel {w wr : World} {zr xs : List Nat} {g i m d r : Nat} (hlt : i < m) (hm : zr.length = m) (hx : xs.length = m) (Hrow : Hid (Row wr g zr)) (Hok : Hid (Ok zr)) (hd : 0 < d) (hr : r < d) (hxo : Ok xs)
    (Hval : Hid (val (xs.drop (i + 1)) = d * val (zr.drop (i + 1)) + r)) (Hb : Hid (Below g w wr)) (T : Nat) (hT : T = 4294967296 * r + lim xs i) :
    Hid ((zr.set i (T / d)).length = m) ∧ Hid (Row (wr.setCell ⟨g, i, none⟩ (.int .u32 ((T / d : Nat) : Int))) g (zr.set i (T / d))) ∧ Hid (Ok (zr.set i (T / d))) ∧
    Hid (val (xs.drop i) = d * val ((zr.set i (T / d)).drop i) + T % d) ∧ Hid (Below g w (wr.setCell ⟨g, i, none⟩ (.int .u32 ((T / d : Nat) : Int)))) := by
  have hq : T / d < 4294967296 := (Nat.div_lt_iff_lt_mul hd).2 (by
    have := hxo.lim i
    have := Nat.mul_le_mul_left 4294967296 (show r + 1 ≤ d from hr)
    omega)
  refine ⟨by rw [Hid, List.length_set, hm], Hrow.out.set _ _, Hok.out.set _ hq, ?_, Hb.out.setCell (Nat.le_refl _) _⟩
  rw [Hid, val_drop xs i (by omega), val_drop _ i (by rw [List.length_set]; omega), lim_set_eq (by omega), List.drop_set_of_lt (by omega)]
  exact short_step hT Hval.out

/-- A number and a limb are handed back. -/
def RetNumL (N r : Nat) (w : World) (e : Ending) (w' : World) : Prop := ∃ A n c xs, e = .returned (.tuple #[.slice A n c, .int .u32 (r : Int)]) ∧ Sl w' w'.heap.size A n c xs ∧ Nz xs ∧ val xs = N ∧ Below w.heap.size w w'

theorem short_q {X d Z r : Nat} (h : X = d * Z + r) (hr : r < d) : Z = X / d ∧ r = X % d := by
  have hd : 0 < d := by omega
  rw [h, Nat.add_comm, Nat.add_mul_div_left _ _ hd, Nat.add_mul_mod_self_left, Nat.div_eq_of_lt hr, Nat.mod_eq_of_lt hr]
  exact ⟨(Nat.zero_add _).symm, rfl⟩

set_option maxHeartbeats 1000000 in
theorem rshort_any (A : Option Addr) (n c d : Nat) (xs : List Nat) (w : World) (h : Sl w w.heap.size A n c xs) (hn : n ≤ 1000000) (hd : 0 < d) (hd2 : d < 4294967296) :
    Calls Try.prog 83 #[.slice A n c, .int .u32 (d : Int)] w (RetNumL (val xs / d) (val xs % d) w) := by
  have hcap := h.cap
  have hcr := h.capr
  have Hl := Lib.hid h.len
  have hmk := make_any (n : Int) n (by omega) (by omega)
  have Hrow := Lib.hid (Row.made w n)
  have Hb0 := Lib.hid ((Below.refl w.heap.size w).alloc (Nat.le_refl _) (.cells (zrow n) 51))
  have hd0 : ((d : Int) == 0) = false := by rw [beq_eq_false_iff_ne]; omega
  go_enter Try.func83, Try.ntmps83
  go_wp2
  go_loopw [7, 8] (fun rv iv wr => ∃ (j r : Nat) (zr : List Nat), j ≤ n ∧ iv = .int .i64 ((j : Int) - 1) ∧ rv = .int .u64 r ∧ r < d ∧ Hid (zr.length = n) ∧ Hid (Row wr w.heap.size zr) ∧ Hid (Ok zr) ∧
      Hid (val (xs.drop j) = d * val (zr.drop j) + r) ∧ Hid (Below w.heap.size w wr)) (fun _ iv _ => (intOf iv + 1).toNat)
  case atStart => exact ⟨n, 0, List.replicate n 0, Nat.le_refl _, rfl, rfl, hd, by rw [Hid, List.length_replicate], Hrow.out, ok_zeros _, by rw [Hid, List.drop_of_length_le (by rw [Hl.out]; exact Nat.le_refl _), List.drop_of_length_le (by rw [List.length_replicate]; exact Nat.le_refl _)]; rfl, Hb0.out⟩
  case round =>
    obtain ⟨j, r, zr, hj, rfl, rfl, hr, Hlen, Hrw, Hok, Hval, Hb⟩ := hrel
    by_cases hj0 : 0 < j
    · obtain ⟨i, rfl⟩ : ∃ i, j = i + 1 := ⟨j - 1, by omega⟩
      have hi : i < n := by omega
      have hc1 := Hrw.out.cell (i := i) (by rw [Hlen.out]; omega)
      have hf1 := Hrw.out.free i
      have lx := h.ok.lim i
      have R := Lib.hid (short_rel (xs := xs) hi Hlen.out Hl.out Hrw Hok hd hr h.ok Hval Hb _ rfl)
      obtain ⟨ad, rfl, _, hcx⟩ := (h.below Hb.out).cell hi
      have e1 : ((i + 1 : Nat) : Int) - 1 = (i : Int) := by omega
      rw [e1]
      obtain ⟨T, hT⟩ : ∃ T, T = 4294967296 * r + lim xs i := ⟨_, rfl⟩
      rw [← hT] at R
      have hTi : (r : Int) * 4294967296 + (lim xs i : Int) = (T : Int) := by omega
      have hT9 : T < 18446744073709551616 := by omega
      have hTq : T / d < 4294967296 := (Nat.div_lt_iff_lt_mul hd).2 (by
        have := Nat.mul_le_mul_left 4294967296 (show r + 1 ≤ d from hr)
        omega)
      have HT := Lib.hid hT
      clear hT e1
      go_wp2
      rw [← Int.natCast_ediv, ← Int.natCast_emod, wrap_small hTq]
      exact ⟨⟨i, T % d, _, by omega, rfl, rfl, Nat.mod_lt _ hd, R.out⟩, by simp [intOf]⟩
    · obtain rfl : j = 0 := by omega
      have Hz := Lib.hid (short_q Hval.out hr)
      rw [List.drop_zero, List.drop_zero] at Hz
      have hsl := Hrw.out.sl (B := wr.heap.size) (n := n) (c := n) Hrw.out.lt 0 (by rw [Hlen.out]; omega) (Nat.le_refl _) (by omega) Hok.out
      rw [List.drop_zero, List.take_of_length_le (by rw [Hlen.out]; exact Nat.le_refl _)] at hsl
      go_wp2_with fail
      refine (rtrim_any _ _ _ _ _ _ hsl).mono ?_
      rintro e w3 ⟨⟨j, hj, rfl, hnz, hv⟩, rfl⟩
      have HV := Lib.hid hv
      clear hv
      go_wp2
      rw [Hz.out.2]
      go_ret2
      exact ⟨_, _, _, _, rfl, hsl.to hj, hnz, by rw [HV.out]; exact Hz.out.1, Hb.out⟩

end Go.Proofs.Ytalgcppogjpilaa
