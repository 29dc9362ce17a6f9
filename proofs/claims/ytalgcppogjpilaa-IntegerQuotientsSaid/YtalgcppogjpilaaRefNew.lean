/-
  double and minus of the reference, once more: the result lies in a block of the call's own.
-/
import Derived.Test.YtalgcppogjpilaaRefDouble
import Derived.Test.YtalgcppogjpilaaRefSub
namespace Go.Proofs.Ytalgcppogjpilaa
open Go.RowKit

/-- A number is handed back, in the block that the call made first. -/
def RetNumN (N : Nat) (w : World) (e : Ending) (w' : World) : Prop := ∃ n c xs, e = .returned (.slice (some ⟨w.heap.size, 0, none⟩) n c) ∧ Sl w' w'.heap.size (some ⟨w.heap.size, 0, none⟩) n c xs ∧ Nz xs ∧ val xs = N ∧ Below w.heap.size w w'

set_option maxHeartbeats 1000000 in
theorem rdouble_new (A : Option Addr) (n c b : Nat) (xs : List Nat) (w : World) (h : Sl w w.heap.size A n c xs) (hn : n ≤ 1000000) (hb : b ≤ 1) :
    Calls Try.prog 75 #[.slice A n c, .int .u32 (b : Int)] w (RetNumN (2 * val xs + b) w) := by
  have hcap := h.cap
  have hcr := h.capr
  have Hl := Lib.hid h.len
  have hmk := make_any ((n : Int) + 1) (n + 1) (by omega) (by omega)
  have Hrow := Lib.hid (Row.made w (n + 1))
  have Hb0 := Lib.hid ((Below.refl w.heap.size w).alloc (Nat.le_refl _) (.cells (zrow (n + 1)) 51))
  go_enter Try.func75, Try.ntmps75
  go_wp2
  go_loopw [1, 6] (fun cv iv wr => ∃ (k cy : Nat) (zr : List Nat), k ≤ n ∧ iv = .int .i64 k ∧ cv = .int .u32 cy ∧ cy ≤ 1 ∧ Hid (zr.length = n + 1) ∧ Hid (Row wr w.heap.size zr) ∧ Hid (Ok zr) ∧
      Hid (wv zr 0 k + 4294967296 ^ k * cy = 2 * val (xs.take k) + b) ∧ Hid (Below w.heap.size w wr)) (fun _ iv _ => n + 1 - (intOf iv).toNat)
  case atStart => exact ⟨0, b, List.replicate (n + 1) 0, by omega, rfl, rfl, hb, by rw [Hid, List.length_replicate], Hrow.out, ok_zeros _, by simp [Hid, wv, val], Hb0.out⟩
  case round =>
    obtain ⟨k, cy, zr, hk, rfl, rfl, hcy, Hlen, Hrw, Hok, Hval, Hb⟩ := hrel
    by_cases hkn : k < n
    · have hc1 := Hrw.out.cell (i := k) (by rw [Hlen.out]; omega)
      have hf1 := Hrw.out.free k
      have R := Lib.hid (double_rel (xs := xs) (show k < n + 1 by omega) Hlen.out Hrw Hok Hval Hb _ rfl)
      have lx := h.ok.lim k
      have hk2 : k < n + 1 := by omega
      obtain ⟨ad, rfl, _, hcx⟩ := (h.below Hb.out).cell hkn
      have hcx2 : (wr.setCell ⟨w.heap.size, k, none⟩ (.int .u32 (((2 * lim xs k + cy) % 4294967296 : Nat) : Int))).cell? (ad.add k) = some (.int .u32 (lim xs k : Nat)) :=
        ((h.below R.out.2.2.2.2.out).cell hkn).elim fun a q => by obtain ⟨e, _, hc⟩ := q; cases e; exact hc
      have e9 : (((2 * lim xs k + cy) % 4294967296 : Nat) : Int) = (lim xs k : Int) * 2 % 4294967296 + (cy : Int) := by omega
      have e8 : (lim xs k : Int) / 2147483648 = (((2 * lim xs k + cy) / 4294967296 : Nat) : Int) := by omega
      rw [e9] at hcx2
      have E9 := Lib.hid (And.intro e9 e8)
      clear e9 e8
      go_wp2
      rw [← E9.out.1, E9.out.2]
      exact ⟨⟨k + 1, (2 * lim xs k + cy) / 4294967296, _, by omega, by go_num, rfl, by omega, R.out⟩, by simp [intOf]; omega⟩
    · obtain rfl : k = n := by omega
      have hc1 := Hrw.out.cell (i := k) (by rw [Hlen.out]; omega)
      have hf1 := Hrw.out.free k
      have Hz2 := Lib.hid (Hrw.out.set k cy)
      have Hok2 := Lib.hid (Hok.out.set k (v := cy) (by omega))
      have Hv2 := Lib.hid (show val (zr.set k cy) = 2 * val xs + b by
        have e := wv_set_end (zs := zr) (off := 0) (k := k) (v := cy) (by rw [Hlen.out]; omega)
        rw [Nat.zero_add] at e
        have v := Hval.out
        rw [List.take_of_length_le (by rw [Hl.out]; exact Nat.le_refl _)] at v
        rw [← wv_all (zr.set k cy) (k := k + 1) (by rw [List.length_set, Hlen.out]; exact Nat.le_refl _), e, v])
      have Hb2 := Lib.hid (Hb.out.setCell (p := ⟨w.heap.size, k, none⟩) (Nat.le_refl _) (.int .u32 (cy : Int)))
      have hsl := Hz2.out.sl (B := (wr.setCell ⟨w.heap.size, k, none⟩ (.int .u32 (cy : Int))).heap.size) (n := k + 1) (c := k + 1) Hz2.out.lt 0 (by rw [List.length_set, Hlen.out]; omega) (Nat.le_refl _) (by omega) Hok2.out
      rw [List.drop_zero, List.take_of_length_le (by rw [List.length_set, Hlen.out]; omega)] at hsl
      have hk3 : k < k + 1 := by omega
      go_wp2_with fail
      refine (rtrim_any _ _ _ _ _ _ hsl).mono ?_
      rintro e w3 ⟨⟨j, hj, rfl, hnz, hv⟩, rfl⟩
      have HV := Lib.hid hv
      clear hv
      go_wp2
      go_ret
      exact ⟨_, _, _, rfl, hsl.to hj, hnz, by rw [HV.out]; exact Hv2.out, Hb2.out⟩

set_option maxHeartbeats 2000000 in
theorem rminus_new (A A' : Option Addr) (n c n' c' : Nat) (xs ys : List Nat) (w : World) (h : Sl w w.heap.size A n c xs) (h' : Sl w w.heap.size A' n' c' ys) (hy : Nz ys) (hle : val ys ≤ val xs) :
    Calls Try.prog 58 #[.slice A n c, .slice A' n' c'] w (RetNumN (val xs - val ys) w) := by
  have hn : n' ≤ n := by
    rcases Nat.lt_or_ge n n' with hlt | hge
    · have := val_lt_of_length h.ok hy (by rw [h.len, h'.len]; exact hlt)
      omega
    · exact hge
  have Hle := Lib.hid hle
  clear hle
  have hreach := h.reach
  have Hx := Lib.hid (sl_val h (k := n) (Nat.le_refl _))
  have Hy := Lib.hid (sl_val h' (k := n) hn)
  have hmk := make_any (n : Int) n rfl (by omega)
  have Hrow := Lib.hid (Row.made w n)
  have Hb0 := Lib.hid ((Below.refl w.heap.size w).alloc (Nat.le_refl _) (.cells (zrow n) 51))
  go_enter Try.func58, Try.ntmps58
  go_wp2
  go_loopw [6, 7] (fun cv iv wr => ∃ (k cy : Nat) (zr : List Nat), k ≤ n ∧ iv = .int .i64 k ∧ cv = .int .u64 cy ∧ cy ≤ 1 ∧ Hid (zr.length = n) ∧ Hid (Row wr w.heap.size zr) ∧ Hid (Ok zr) ∧
      Hid (wv zr 0 k + val (ys.take k) = val (xs.take k) + 4294967296 ^ k * cy) ∧ Hid (Below w.heap.size w wr)) (fun _ iv _ => n - (intOf iv).toNat)
  case atStart => exact ⟨0, 0, List.replicate n 0, by omega, rfl, rfl, by omega, by rw [Hid, List.length_replicate], Hrow.out, ok_zeros _, by simp [Hid, wv, val], Hb0.out⟩
  case round =>
    obtain ⟨k, cy, zr, hk, rfl, rfl, hcy, Hlen, Hrw, Hok, Hval, Hb⟩ := hrel
    by_cases hkn : k < n
    · have hc1 := Hrw.out.cell (i := k) (by rw [Hlen.out]; exact hkn)
      have hf1 := Hrw.out.free k
      have lx := h.ok.lim k
      have ly := h'.ok.lim k
      obtain ⟨ad, rfl, _, hcx⟩ := (h.below Hb.out).cell hkn
      by_cases k2 : k < n'
      · obtain ⟨ad', rfl, _, hcy'⟩ := (h'.below Hb.out).cell k2
        by_cases hb : lim xs k < cy + lim ys k
        · have R := Lib.hid (rminus_rel (xs := xs) (ys := ys) hkn Hlen.out Hrw Hok Hval Hb (lim xs k + 4294967296 - (cy + lim ys k)) 1 (by omega) (by omega))
          go_wp2
          rw [show ((↑(lim xs k) + 4294967296 - (↑cy + ↑(lim ys k))) : Int) = ((lim xs k + 4294967296 - (cy + lim ys k) : Nat) : Int) by omega]
          exact ⟨⟨k + 1, 1, _, by omega, by go_num, by go_num, by omega, R.out⟩, by simp [intOf]; omega⟩
        · have R := Lib.hid (rminus_rel (xs := xs) (ys := ys) hkn Hlen.out Hrw Hok Hval Hb (lim xs k - (cy + lim ys k)) 0 (by omega) (by omega))
          go_wp2
          rw [show ((↑(lim xs k) - (↑cy + ↑(lim ys k))) : Int) = ((lim xs k - (cy + lim ys k) : Nat) : Int) by omega]
          exact ⟨⟨k + 1, 0, _, by omega, by go_num, by go_num, by omega, R.out⟩, by simp [intOf]; omega⟩
      · have Z := Lib.hid (sl_lim_past h' (k := k) (by omega))
        by_cases hb : lim xs k < cy
        · have R := Lib.hid (rminus_rel (xs := xs) (ys := ys) hkn Hlen.out Hrw Hok Hval Hb (lim xs k + 4294967296 - cy) 1 (by omega) (by rw [Z.out]; omega))
          go_wp2
          rw [show ((↑(lim xs k) + 4294967296 - ↑cy) : Int) = ((lim xs k + 4294967296 - cy : Nat) : Int) by omega]
          exact ⟨⟨k + 1, 1, _, by omega, by go_num, by go_num, by omega, R.out⟩, by simp [intOf]; omega⟩
        · have R := Lib.hid (rminus_rel (xs := xs) (ys := ys) hkn Hlen.out Hrw Hok Hval Hb (lim xs k - cy) 0 (by omega) (by rw [Z.out]; omega))
          go_wp2
          rw [show ((↑(lim xs k) - ↑cy) : Int) = ((lim xs k - cy : Nat) : Int) by omega]
          exact ⟨⟨k + 1, 0, _, by omega, by go_num, by go_num, by omega, R.out⟩, by simp [intOf]; omega⟩
    · obtain rfl : k = n := by omega
      have hz := Hrw.out.lt
      have hsl := Hrw.out.sl (B := wr.heap.size) (n := k) (c := k) hz 0 (by rw [Hlen.out]; omega) (Nat.le_refl _) (by omega) Hok.out
      rw [List.drop_zero, List.take_of_length_le (by rw [Hlen.out]; omega)] at hsl
      have He : Hid (val zr = val xs - val ys) := by
        have a := Hval.out
        rw [Hx.out, Hy.out, wv_all zr (by rw [Hlen.out]; omega)] at a
        have b := val_lt Hok.out
        rw [Hlen.out] at b
        have c := Hle.out
        rcases Nat.lt_or_ge cy 1 with h1 | h1
        · obtain rfl : cy = 0 := by omega
          show val zr = val xs - val ys
          omega
        · obtain rfl : cy = 1 := by omega
          show val zr = val xs - val ys
          omega
      go_wp2_with fail
      refine (rtrim_any _ _ _ _ zr wr hsl).mono ?_
      rintro e w3 ⟨⟨j, hj, rfl, hnz, hv⟩, rfl⟩
      have HV := Lib.hid hv
      clear hv
      go_wp2
      go_ret
      exact ⟨_, _, _, rfl, hsl.to hj, hnz, by rw [HV.out]; exact He.out, Hb.out⟩

end Go.Proofs.Ytalgcppogjpilaa
