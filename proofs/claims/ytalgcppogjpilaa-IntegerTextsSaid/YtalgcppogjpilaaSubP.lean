/-
  The walk of subProduct.
-/
import Derived.Test.YtalgcppogjpilaaMul
namespace Go.Proofs.Ytalgcppogjpilaa
open Go.RowKit

theorem subp_rel {w wr : World} {zs zr ys : List Nat} {g off k cy f : Nat} (hlt : off + k < zr.length) (Hrow : Hid (Row wr g zr)) (Hok : Hid (Ok zr)) (Hsame : Hid (Same zs zr off (off + k)))
    (Hval : Hid (wv zr off k + val (ys.take k) * f = wv zs off k + 4294967296 ^ k * cy)) (Hgr : Hid (w.grownBy wr (some g))) (v c' : Nat) (hv : v < 4294967296) (hs : v + cy + lim ys k * f = lim zr (off + k) + 4294967296 * c') :
    Hid (Row (wr.setCell ⟨g, off + k, none⟩ (.int .u32 (v : Int))) g (zr.set (off + k) v)) ∧ Hid (Ok (zr.set (off + k) v)) ∧
    Hid (Same zs (zr.set (off + k) v) off (off + (k + 1))) ∧
    Hid (wv (zr.set (off + k) v) off (k + 1) + val (ys.take (k + 1)) * f = wv zs off (k + 1) + 4294967296 ^ (k + 1) * c') ∧
    Hid (w.grownBy (wr.setCell ⟨g, off + k, none⟩ (.int .u32 (v : Int))) (some g)) := by
  refine ⟨Hrow.out.set _ _, Hok.out.set _ hv, Hsame.out.snoc _, ?_, grown_set Hgr.out _ _⟩
  rw [Hid, wv_set_end hlt, wv_succ, val_take_succ, Nat.pow_succ, Nat.add_mul, Nat.mul_assoc (4294967296 ^ k) (lim ys k) f]
  have e := Hsame.out.2 (off + k) (.inr (Nat.le_refl _))
  exact sub_step (by rw [hs, e]) Hval.out

/-- The borrow stays below a limb. -/
theorem borrow_bd {a f c t : Nat} (ha : a < 4294967296) (hf : f < 4294967296) (hc : c < 4294967296) : (c + a * f) / 4294967296 < 4294967296 ∧ (t < (c + a * f) % 4294967296 → (c + a * f) / 4294967296 + 1 < 4294967296) ∧ a * f ≤ 18446744065119617025 := by
  have h := Nat.mul_le_mul (show a ≤ 4294967295 by omega) (show f ≤ 4294967295 by omega)
  generalize a * f = p at *
  omega

theorem subp_last {w wr : World} {zs zr : List Nat} {g off k cy F : Nat} (hlt : off + k < zr.length) (Hrow : Row wr g zr) (Hok : Ok zr) (Hsame : Same zs zr off (off + k))
    (Hval : wv zr off k + F = wv zs off k + 4294967296 ^ k * cy) (Hgr : w.grownBy wr (some g)) (v b : Nat) (hv : v < 4294967296) (hs : v + cy = lim zr (off + k) + 4294967296 * b) :
    Row (wr.setCell ⟨g, off + k, none⟩ (.int .u32 (v : Int))) g (zr.set (off + k) v) ∧ Ok (zr.set (off + k) v) ∧ Same zs (zr.set (off + k) v) off (off + (k + 1)) ∧
    wv (zr.set (off + k) v) off (k + 1) + F = wv zs off (k + 1) + 4294967296 ^ (k + 1) * b ∧ w.grownBy (wr.setCell ⟨g, off + k, none⟩ (.int .u32 (v : Int))) (some g) := by
  refine ⟨Hrow.set _ _, Hok.set _ hv, Hsame.snoc _, ?_, grown_set Hgr _ _⟩
  rw [wv_set_end hlt, wv_succ, Nat.pow_succ]
  have e := Hsame.2 (off + k) (.inr (Nat.le_refl _))
  have := sub_step (b := 0) (P := 4294967296 ^ k) (v := v) (c' := b) (t := lim zs (off + k)) (by rw [Nat.add_zero, hs, e]) Hval
  simpa using this

set_option maxHeartbeats 2000000 in
theorem subProduct_any (g off c B m d f : Nat) (A : Option Addr) (zs ys : List Nat) (w : World) (hr : Row w g zs) (hoff : off + (m + 1) ≤ zs.length) (hz : Ok zs) (hl : off + (m + 1) ≤ 35184372088832)
    (h : Sl w B A m d ys) (hB : B ≤ g) (hf : f < 4294967296) :
    Calls Try.prog 101 #[.slice (some ⟨g, off, none⟩) (m + 1) c, .slice A m d, .int .u32 f] w fun e w' => ∃ (zs' : List Nat) (b : Bool), e = .returned (.bool b) ∧ Row w' g zs' ∧ Ok zs' ∧ Same zs zs' off (off + (m + 1)) ∧
      wv zs' off (m + 1) + val ys * f = wv zs off (m + 1) + 4294967296 ^ (m + 1) * (if b then 1 else 0) ∧ w.grownBy w' (some g) := by
  go_enter Try.func101, Try.ntmps101
  go_wp2
  go_loopw [8, 10, 15] (fun cv lv iv wr => ∃ (k cy : Nat) (zr : List Nat), k ≤ m ∧ iv = .int .i64 k ∧ cv = .int .u64 cy ∧ cy < 4294967296 ∧ Hid (Row wr g zr) ∧ Hid (Ok zr) ∧ Hid (Same zs zr off (off + k)) ∧
      Hid (wv zr off k + val (ys.take k) * f = wv zs off k + 4294967296 ^ k * cy) ∧ Hid (w.grownBy wr (some g))) (fun _ _ iv _ => m - (intOf iv).toNat)
  case atStart => exact ⟨0, 0, zs, by omega, rfl, rfl, by omega, hr, hz, Same.refl _ _ _, by rw [Hid, List.take_zero, val_nil, Nat.zero_mul, Nat.mul_zero], World.grownBy.refl w _⟩
  case round =>
    obtain ⟨k, cy, zr, hk, rfl, rfl, hcy, Hrow, Hok, Hsame, Hval, Hgr⟩ := hrel
    by_cases hkn : k < m
    · have hlt : off + k < zr.length := by have := Hsame.out.1; omega
      have hc1 := Hrow.out.cell hlt
      have hf1 := Hrow.out.free (off + k)
      have ht := Hok.out.lim (off + k)
      have hy := h.ok.lim k
      have hbd := borrow_bd (t := lim zr (off + k)) hy hf hcy
      have b1 : ((lim ys k : Nat) : Int) * (f : Int) ≤ 18446744065119617025 := by have := hbd.2.2; rw [← Int.natCast_mul]; omega
      have b0 : 0 ≤ ((lim ys k : Nat) : Int) * (f : Int) := by rw [← Int.natCast_mul]; omega
      have c1 : ((cy : Int) + ((lim ys k : Nat) : Int) * (f : Int)) = ((cy + lim ys k * f : Nat) : Int) := by rw [Int.natCast_add, Int.natCast_mul]
      have C1 := Lib.hid c1
      have Hbd := Lib.hid hbd
      clear hbd c1
      obtain ⟨ad, rfl, hadb, hc2⟩ := (h.grown Hgr.out (by have := hr.lt; omega) hB).cell hkn
      by_cases hb : lim zr (off + k) < (cy + lim ys k * f) % 4294967296
      · have t1 : ((lim zr (off + k) : Nat) : Int) < ((cy : Int) + ((lim ys k : Nat) : Int) * (f : Int)) % 4294967296 := by rw [C1.out]; omega
        have R := Lib.hid (subp_rel (f := f) hlt Hrow Hok Hsame Hval Hgr (lim zr (off + k) + 4294967296 - (cy + lim ys k * f) % 4294967296) ((cy + lim ys k * f) / 4294967296 + 1) (by omega) (by
          generalize lim ys k * f = p at *
          omega))
        go_wp2
        rw [show ((lim zr (off + k) : Int) - (↑cy + ↑(lim ys k) * ↑f)) % 4294967296 = ((lim zr (off + k) + 4294967296 - (cy + lim ys k * f) % 4294967296 : Nat) : Int) by rw [C1.out]; omega,
          show Value.int .u64 ((↑cy + ↑(lim ys k) * ↑f) / 4294967296 + 1) = Value.int .u64 (((cy + lim ys k * f) / 4294967296 + 1 : Nat) : Int) by rw [C1.out]; go_num]
        exact ⟨⟨k + 1, (cy + lim ys k * f) / 4294967296 + 1, _, by omega, by go_num, rfl, Hbd.out.2.1 hb, R.out⟩, by simp [intOf]; omega⟩
      · have t1 : ((cy : Int) + ((lim ys k : Nat) : Int) * (f : Int)) % 4294967296 ≤ ((lim zr (off + k) : Nat) : Int) := by rw [C1.out]; omega
        have R := Lib.hid (subp_rel (f := f) hlt Hrow Hok Hsame Hval Hgr (lim zr (off + k) - (cy + lim ys k * f) % 4294967296) ((cy + lim ys k * f) / 4294967296) (by omega) (by
          generalize lim ys k * f = p at *
          omega))
        go_wp2
        rw [show (lim zr (off + k) : Int) - (↑cy + ↑(lim ys k) * ↑f) % 4294967296 = ((lim zr (off + k) - (cy + lim ys k * f) % 4294967296 : Nat) : Int) by rw [C1.out]; omega,
          show Value.int .u64 ((↑cy + ↑(lim ys k) * ↑f) / 4294967296) = Value.int .u64 (((cy + lim ys k * f) / 4294967296 : Nat) : Int) by rw [C1.out]; go_num]
        exact ⟨⟨k + 1, (cy + lim ys k * f) / 4294967296, _, by omega, by go_num, rfl, Hbd.out.1, R.out⟩, by simp [intOf]; omega⟩
    · have E0 := Lib.hid (sl_val h (k := k) (by omega))
      obtain rfl : k = m := by omega
      have hlt : off + k < zr.length := by have := Hsame.out.1; omega
      have hc1 := Hrow.out.cell hlt
      have hf1 := Hrow.out.free (off + k)
      have ht := Hok.out.lim (off + k)
      have e := Hsame.out.2 (off + k) (.inr (Nat.le_refl _))
      have E1 := Lib.hid e
      clear e
      have Hv' : Hid (wv zr off k + val ys * f = wv zs off k + 4294967296 ^ k * cy) := by rw [← E0.out]; exact Hval.out
      by_cases hb : lim zr (off + k) < cy
      · have hb' : ((lim zr (off + k) : Nat) : Int) < (cy : Int) := by omega
        have R := Lib.hid (subp_last hlt Hrow.out Hok.out Hsame.out Hv'.out Hgr.out (lim zr (off + k) + 4294967296 - cy) 1 (by omega) (by omega))
        go_wp2
        rw [show ((lim zr (off + k) : Int) - ↑cy) % 4294967296 = ((lim zr (off + k) + 4294967296 - cy : Nat) : Int) by omega]
        go_ret
        exact ⟨_, true, rfl, R.out⟩
      · have hb' : (cy : Int) ≤ ((lim zr (off + k) : Nat) : Int) := by omega
        have R := Lib.hid (subp_last hlt Hrow.out Hok.out Hsame.out Hv'.out Hgr.out (lim zr (off + k) - cy) 0 (by omega) (by omega))
        go_wp2
        rw [show (lim zr (off + k) : Int) - ↑cy = ((lim zr (off + k) - cy : Nat) : Int) by omega]
        go_ret
        exact ⟨_, false, rfl, R.out⟩

end Go.Proofs.Ytalgcppogjpilaa
