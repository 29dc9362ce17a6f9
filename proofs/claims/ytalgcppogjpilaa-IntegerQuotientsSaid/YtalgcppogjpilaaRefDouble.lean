/-
  The reference's double.
-/
import Derived.Test.YtalgcppogjpilaaRefBit
namespace Go.Proofs.Ytalgcppogjpilaa
open Go.RowKit

theorem double_step {P W cy b v2 l s : Nat} (hs : s = 2 * l + cy) (h : W + P * cy = 2 * v2 + b) : W + P * (s % 4294967296) + P * 4294967296 * (s / 4294967296) = 2 * (v2 + P * l) + b := by
  have e : P * (s % 4294967296) + P * 4294967296 * (s / 4294967296) = P * s := by rw [Nat.mul_assoc, ← Nat.mul_add, Nat.mod_add_div]
  have f : P * s = 2 * (P * l) + P * cy := by rw [hs, Nat.mul_add, Nat.mul_left_comm]
  generalize P * l = x at *
  generalize P * cy = y at *
  generalize P * s = z at *
  generalize P * (s % 4294967296) = t1 at *
  generalize P * 4294967296 * (s / 4294967296) = t2 at *
  omega
/-- The relation of double, one limb on. -/
theorem double_rel {w wr : World} {zr xs : List Nat} {g k m cy b : Nat} (hlt : k < m) (hm : zr.length = m) (Hrow : Hid (Row wr g zr)) (Hok : Hid (Ok zr))
    (Hval : Hid (wv zr 0 k + 4294967296 ^ k * cy = 2 * val (xs.take k) + b)) (Hb : Hid (Below g w wr)) (s : Nat) (hs : s = 2 * lim xs k + cy) :
    Hid ((zr.set k (s % 4294967296)).length = m) ∧ Hid (Row (wr.setCell ⟨g, k, none⟩ (.int .u32 ((s % 4294967296 : Nat) : Int))) g (zr.set k (s % 4294967296))) ∧ Hid (Ok (zr.set k (s % 4294967296))) ∧
    Hid (wv (zr.set k (s % 4294967296)) 0 (k + 1) + 4294967296 ^ (k + 1) * (s / 4294967296) = 2 * val (xs.take (k + 1)) + b) ∧
    Hid (Below g w (wr.setCell ⟨g, k, none⟩ (.int .u32 ((s % 4294967296 : Nat) : Int)))) := by
  refine ⟨by rw [Hid, List.length_set, hm], Hrow.out.set _ _, Hok.out.set _ (by omega), ?_, Hb.out.setCell (Nat.le_refl _) _⟩
  have e := wv_set_end (zs := zr) (off := 0) (k := k) (v := s % 4294967296) (by omega)
  rw [Nat.zero_add] at e
  rw [Hid, e, val_take_succ, Nat.pow_succ]
  exact double_step hs Hval.out

set_option maxHeartbeats 1000000 in
theorem rdouble_any (A : Option Addr) (n c b : Nat) (xs : List Nat) (w : World) (h : Sl w w.heap.size A n c xs) (hn : n ≤ 1000000) (hb : b ≤ 1) :
    Calls Try.prog 75 #[.slice A n c, .int .u32 (b : Int)] w (RetNum (2 * val xs + b) w) := by
  have hcap := h.cap
  have hcr := h.capr
  have Hl := Lib.hid h.len
  have hmk := make_any ((n : Int) + 1) (n + 1) (by omega) (by omega)
  have Hrow := Lib.hid (Row.made w (n + 1))
  have Hb0 := Lib.hid ((Below.refl w.heap.size w).alloc (Nat.le_refl _) (.cells (zrow (n + 1)) 51))
  go_enter Try.func75, Try.ntmps75
  go_wp2
  go_loopw [1, 6] (fun cv iv wr => ∃ (k cy : Nat) (zr : List Nat), k ≤ n ∧ iv = .int .i64 k ∧ cv = .int .u32 cy ∧ cy ≤ 1 ∧ Hid (zr.length = n + 1) ∧ Hid (Row wr w.heap.size zr) ∧ Hid (Ok zr) ∧
      Hid (wv zr 0 k + 4294967296 ^ k * cy = 2 * val (xs.take k) + b) ∧ Hid (Below w.heap.size w wr)) (fun _ iv _ => n + 1 - (intOf iv).toNat)
  case atStart => exact ⟨0, b, List.replicate (n + 1) 0, by omega, rfl, rfl, hb, by rw [Hid, List.length_replicate], Hrow.out, ok_zeros _, by simp [Hid, wv, val], Hb0.out⟩
  case round =>
    obtain ⟨k, cy, zr, hk, rfl, rfl, hcy, Hlen, Hrw, Hok, Hval, Hb⟩ := hrel
    by_cases hkn : k < n
    · have hc1 := Hrw.out.cell (i := k) (by rw [Hlen.out]; omega)
      have hf1 := Hrw.out.free k
      have R := Lib.hid (double_rel (xs := xs) (show k < n + 1 by omega) Hlen.out Hrw Hok Hval Hb _ rfl)
      have lx := h.ok.lim k
      have hk2 : k < n + 1 := by omega
      obtain ⟨ad, rfl, _, hcx⟩ := (h.below Hb.out).cell hkn
      have hcx2 : (wr.setCell ⟨w.heap.size, k, none⟩ (.int .u32 (((2 * lim xs k + cy) % 4294967296 : Nat) : Int))).cell? (ad.add k) = some (.int .u32 (lim xs k : Nat)) :=
        ((h.below R.out.2.2.2.2.out).cell hkn).elim fun a q => by obtain ⟨e, _, hc⟩ := q; cases e; exact hc
      have e9 : (((2 * lim xs k + cy) % 4294967296 : Nat) : Int) = (lim xs k : Int) * 2 % 4294967296 + (cy : Int) := by omega
      have e8 : (lim xs k : Int) / 2147483648 = (((2 * lim xs k + cy) / 4294967296 : Nat) : Int) := by omega
      rw [e9] at hcx2
      have E9 := Lib.hid (And.intro e9 e8)
      clear e9 e8
      go_wp2
      rw [← E9.out.1, E9.out.2]
      exact ⟨⟨k + 1, (2 * lim xs k + cy) / 4294967296, _, by omega, by go_num, rfl, by omega, R.out⟩, by simp [intOf]; omega⟩
    · obtain rfl : k = n := by omega
      have hc1 := Hrw.out.cell (i := k) (by rw [Hlen.out]; omega)
      have hf1 := Hrw.out.free k
      have Hz2 := Lib.hid (Hrw.out.set k cy)
      have Hok2 := Lib.hid (Hok.out.set k (v := cy) (by omega))
      have Hv2 := Lib.hid (show val (zr.set k cy) = 2 * val xs + b by
        have e := wv_set_end (zs := zr) (off := 0) (k := k) (v := cy) (by rw [Hlen.out]; omega)
        rw [Nat.zero_add] at e
        have v := Hval.out
        rw [List.take_of_length_le (by rw [Hl.out]; exact Nat.le_refl _)] at v
        rw [← wv_all (zr.set k cy) (k := k + 1) (by rw [List.length_set, Hlen.out]; exact Nat.le_refl _), e, v])
      have Hb2 := Lib.hid (Hb.out.setCell (p := ⟨w.heap.size, k, none⟩) (Nat.le_refl _) (.int .u32 (cy : Int)))
      have hsl := Hz2.out.sl (B := (wr.setCell ⟨w.heap.size, k, none⟩ (.int .u32 (cy : Int))).heap.size) (n := k + 1) (c := k + 1) Hz2.out.lt 0 (by rw [List.length_set, Hlen.out]; omega) (Nat.le_refl _) (by omega) Hok2.out
      rw [List.drop_zero, List.take_of_length_le (by rw [List.length_set, Hlen.out]; omega)] at hsl
      have hk3 : k < k + 1 := by omega
      go_wp2_with fail
      refine (rtrim_any _ _ _ _ _ _ hsl).mono ?_
      rintro e w3 ⟨⟨j, hj, rfl, hnz, hv⟩, rfl⟩
      have HV := Lib.hid hv
      clear hv
      go_wp2
      go_ret
      exact ⟨_, _, _, _, rfl, hsl.to hj, hnz, by rw [HV.out]; exact Hv2.out, Hb2.out⟩

end Go.Proofs.Ytalgcppogjpilaa
