/-
  The walk of the reference's minus.
-/
import Derived.Test.YtalgcppogjpilaaRef
namespace Go.Proofs.Ytalgcppogjpilaa
open Go.RowKit

theorem rminus_rel {w wr : World} {zr xs ys : List Nat} {g k m cy : Nat} (hlt : k < m) (hm : zr.length = m) (Hrow : Hid (Row wr g zr)) (Hok : Hid (Ok zr))
    (Hval : Hid (wv zr 0 k + val (ys.take k) = val (xs.take k) + 4294967296 ^ k * cy)) (Hb : Hid (Below g w wr)) (v c' : Nat) (hv : v < 4294967296) (hs : v + cy + lim ys k = lim xs k + 4294967296 * c') :
    Hid ((zr.set k v).length = m) ∧ Hid (Row (wr.setCell ⟨g, k, none⟩ (.int .u32 (v : Int))) g (zr.set k v)) ∧ Hid (Ok (zr.set k v)) ∧
    Hid (wv (zr.set k v) 0 (k + 1) + val (ys.take (k + 1)) = val (xs.take (k + 1)) + 4294967296 ^ (k + 1) * c') ∧
    Hid (Below g w (wr.setCell ⟨g, k, none⟩ (.int .u32 (v : Int)))) := by
  refine ⟨by rw [Hid, List.length_set, hm], Hrow.out.set _ _, Hok.out.set _ hv, ?_, Hb.out.setCell (Nat.le_refl _) _⟩
  have e := wv_set_end (zs := zr) (off := 0) (k := k) (v := v) (by omega)
  rw [Nat.zero_add] at e
  rw [Hid, e, val_take_succ, val_take_succ, Nat.pow_succ]
  exact sub_step hs Hval.out

set_option maxHeartbeats 2000000 in
theorem rminus_any (A A' : Option Addr) (n c n' c' : Nat) (xs ys : List Nat) (w : World) (h : Sl w w.heap.size A n c xs) (h' : Sl w w.heap.size A' n' c' ys) (hy : Nz ys) (hle : val ys ≤ val xs) :
    Calls Try.prog 58 #[.slice A n c, .slice A' n' c'] w (RetNum (val xs - val ys) w) := by
  have hn : n' ≤ n := by
    rcases Nat.lt_or_ge n n' with hlt | hge
    · have := val_lt_of_length h.ok hy (by rw [h.len, h'.len]; exact hlt)
      omega
    · exact hge
  have Hle := Lib.hid hle
  clear hle
  have hreach := h.reach
  have Hx := Lib.hid (sl_val h (k := n) (Nat.le_refl _))
  have Hy := Lib.hid (sl_val h' (k := n) hn)
  have hmk := make_any (n : Int) n rfl (by omega)
  have Hrow := Lib.hid (Row.made w n)
  have Hb0 := Lib.hid ((Below.refl w.heap.size w).alloc (Nat.le_refl _) (.cells (zrow n) 51))
  go_enter Try.func58, Try.ntmps58
  go_wp2
  go_loopw [6, 7] (fun cv iv wr => ∃ (k cy : Nat) (zr : List Nat), k ≤ n ∧ iv = .int .i64 k ∧ cv = .int .u64 cy ∧ cy ≤ 1 ∧ Hid (zr.length = n) ∧ Hid (Row wr w.heap.size zr) ∧ Hid (Ok zr) ∧
      Hid (wv zr 0 k + val (ys.take k) = val (xs.take k) + 4294967296 ^ k * cy) ∧ Hid (Below w.heap.size w wr)) (fun _ iv _ => n - (intOf iv).toNat)
  case atStart => exact ⟨0, 0, List.replicate n 0, by omega, rfl, rfl, by omega, by rw [Hid, List.length_replicate], Hrow.out, ok_zeros _, by simp [Hid, wv, val], Hb0.out⟩
  case round =>
    obtain ⟨k, cy, zr, hk, rfl, rfl, hcy, Hlen, Hrw, Hok, Hval, Hb⟩ := hrel
    by_cases hkn : k < n
    · have hc1 := Hrw.out.cell (i := k) (by rw [Hlen.out]; exact hkn)
      have hf1 := Hrw.out.free k
      have lx := h.ok.lim k
      have ly := h'.ok.lim k
      obtain ⟨ad, rfl, _, hcx⟩ := (h.below Hb.out).cell hkn
      by_cases k2 : k < n'
      · obtain ⟨ad', rfl, _, hcy'⟩ := (h'.below Hb.out).cell k2
        by_cases hb : lim xs k < cy + lim ys k
        · have R := Lib.hid (rminus_rel (xs := xs) (ys := ys) hkn Hlen.out Hrw Hok Hval Hb (lim xs k + 4294967296 - (cy + lim ys k)) 1 (by omega) (by omega))
          go_wp2
          rw [show ((↑(lim xs k) + 4294967296 - (↑cy + ↑(lim ys k))) : Int) = ((lim xs k + 4294967296 - (cy + lim ys k) : Nat) : Int) by omega]
          exact ⟨⟨k + 1, 1, _, by omega, by go_num, by go_num, by omega, R.out⟩, by simp [intOf]; omega⟩
        · have R := Lib.hid (rminus_rel (xs := xs) (ys := ys) hkn Hlen.out Hrw Hok Hval Hb (lim xs k - (cy + lim ys k)) 0 (by omega) (by omega))
          go_wp2
          rw [show ((↑(lim xs k) - (↑cy + ↑(lim ys k))) : Int) = ((lim xs k - (cy + lim ys k) : Nat) : Int) by omega]
          exact ⟨⟨k + 1, 0, _, by omega, by go_num, by go_num, by omega, R.out⟩, by simp [intOf]; omega⟩
      · have Z := Lib.hid (sl_lim_past h' (k := k) (by omega))
        by_cases hb : lim xs k < cy
        · have R := Lib.hid (rminus_rel (xs := xs) (ys := ys) hkn Hlen.out Hrw Hok Hval Hb (lim xs k + 4294967296 - cy) 1 (by omega) (by rw [Z.out]; omega))
          go_wp2
          rw [show ((↑(lim xs k) + 4294967296 - ↑cy) : Int) = ((lim xs k + 4294967296 - cy : Nat) : Int) by omega]
          exact ⟨⟨k + 1, 1, _, by omega, by go_num, by go_num, by omega, R.out⟩, by simp [intOf]; omega⟩
        · have R := Lib.hid (rminus_rel (xs := xs) (ys := ys) hkn Hlen.out Hrw Hok Hval Hb (lim xs k - cy) 0 (by omega) (by rw [Z.out]; omega))
          go_wp2
          rw [show ((↑(lim xs k) - ↑cy) : Int) = ((lim xs k - cy : Nat) : Int) by omega]
          exact ⟨⟨k + 1, 0, _, by omega, by go_num, by go_num, by omega, R.out⟩, by simp [intOf]; omega⟩
    · obtain rfl : k = n := by omega
      have hz := Hrw.out.lt
      have hsl := Hrw.out.sl (B := wr.heap.size) (n := k) (c := k) hz 0 (by rw [Hlen.out]; omega) (Nat.le_refl _) (by omega) Hok.out
      rw [List.drop_zero, List.take_of_length_le (by rw [Hlen.out]; omega)] at hsl
      have He : Hid (val zr = val xs - val ys) := by
        have a := Hval.out
        rw [Hx.out, Hy.out, wv_all zr (by rw [Hlen.out]; omega)] at a
        have b := val_lt Hok.out
        rw [Hlen.out] at b
        have c := Hle.out
        rcases Nat.lt_or_ge cy 1 with h1 | h1
        · obtain rfl : cy = 0 := by omega
          show val zr = val xs - val ys
          omega
        · obtain rfl : cy = 1 := by omega
          show val zr = val xs - val ys
          omega
      go_wp2_with fail
      refine (rtrim_any _ _ _ _ zr wr hsl).mono ?_
      rintro e w3 ⟨⟨j, hj, rfl, hnz, hv⟩, rfl⟩
      have HV := Lib.hid hv
      clear hv
      go_wp2
      go_ret
      exact ⟨_, _, _, _, rfl, hsl.to hj, hnz, by rw [HV.out]; exact He.out, Hb.out⟩

end Go.Proofs.Ytalgcppogjpilaa
