/-
  The walks of addTo and subFrom: addition and subtraction in place.
-/
import Derived.Test.YtalgcppogjpilaaLeaf
namespace Go.Proofs.Ytalgcppogjpilaa
open Go.RowKit

theorem sl_lim_past {w : World} {B n c k : Nat} {A : Option Addr} {xs : List Nat} (h : Sl w B A n c xs) (hk : n ≤ k) : lim xs k = 0 := lim_past (by rw [h.len]; exact hk)
theorem sl_val {w : World} {B n c k : Nat} {A : Option Addr} {xs : List Nat} (h : Sl w B A n c xs) (hk : n ≤ k) : val (xs.take k) = val xs := by rw [List.take_of_length_le (by rw [h.len]; exact hk)]

theorem add_rel {w wr : World} {zs zr ys : List Nat} {g off k cy : Nat} (hlt : off + k < zr.length) (Hrow : Hid (Row wr g zr)) (Hok : Hid (Ok zr)) (Hsame : Hid (Same zs zr off (off + k)))
    (Hval : Hid (wv zr off k + 4294967296 ^ k * cy = wv zs off k + val (ys.take k))) (Hgr : Hid (w.grownBy wr (some g))) (s : Nat) (hs : s = cy + lim ys k + lim zr (off + k)) :
    Hid (Row (wr.setCell ⟨g, off + k, none⟩ (.int .u32 ((s % 4294967296 : Nat) : Int))) g (zr.set (off + k) (s % 4294967296))) ∧ Hid (Ok (zr.set (off + k) (s % 4294967296))) ∧
    Hid (Same zs (zr.set (off + k) (s % 4294967296)) off (off + (k + 1))) ∧
    Hid (wv (zr.set (off + k) (s % 4294967296)) off (k + 1) + 4294967296 ^ (k + 1) * (s / 4294967296) = wv zs off (k + 1) + val (ys.take (k + 1))) ∧
    Hid (w.grownBy (wr.setCell ⟨g, off + k, none⟩ (.int .u32 ((s % 4294967296 : Nat) : Int))) (some g)) := by
  refine ⟨Hrow.out.set _ _, Hok.out.set _ (by omega), Hsame.out.snoc _, ?_, grown_set Hgr.out _ _⟩
  rw [Hid, wv_set_end hlt, wv_succ, val_take_succ, Nat.pow_succ]
  have e := Hsame.out.2 (off + k) (.inr (Nat.le_refl _))
  exact add_step (by rw [hs, e]; omega) Hval.out

set_option maxHeartbeats 1000000 in
theorem addTo_any (g off n c B m d : Nat) (A : Option Addr) (zs ys : List Nat) (w : World) (hr : Row w g zs) (hoff : off + n ≤ zs.length) (hz : Ok zs) (hl : off + n ≤ 35184372088832)
    (h : Sl w B A m d ys) (hB : B ≤ g) (hmn : m ≤ n) :
    Calls Try.prog 90 #[.slice (some ⟨g, off, none⟩) n c, .slice A m d] w fun e w' => e = .returned (.tuple #[]) ∧ ∃ zs' cy, cy ≤ 1 ∧ Row w' g zs' ∧ Ok zs' ∧ Same zs zs' off (off + n) ∧
      wv zs' off n + 4294967296 ^ n * cy = wv zs off n + val ys ∧ w.grownBy w' (some g) := by
  go_enter Try.func90, Try.ntmps90
  go_wp2
  go_loopw [4, 8] (fun cv iv wr => ∃ (k cy : Nat) (zr : List Nat), k ≤ n ∧ iv = .int .i64 k ∧ cv = .int .u64 cy ∧ cy ≤ 1 ∧ Hid (Row wr g zr) ∧ Hid (Ok zr) ∧ Hid (Same zs zr off (off + k)) ∧
      Hid (wv zr off k + 4294967296 ^ k * cy = wv zs off k + val (ys.take k)) ∧ Hid (w.grownBy wr (some g))) (fun _ iv _ => n - (intOf iv).toNat)
  case atStart => exact ⟨0, 0, zs, by omega, rfl, rfl, by omega, hr, hz, Same.refl _ _ _, rfl, World.grownBy.refl w _⟩
  case round =>
    obtain ⟨k, cy, zr, hk, rfl, rfl, hcy, Hrow, Hok, Hsame, Hval, Hgr⟩ := hrel
    by_cases hkn : k < n
    · have hlt : off + k < zr.length := by have := Hsame.out.1; omega
      have hc1 := Hrow.out.cell hlt
      have hf1 := Hrow.out.free (off + k)
      have ht := Hok.out.lim (off + k)
      by_cases hkm : k < m
      · have R := Lib.hid (add_rel hlt Hrow Hok Hsame Hval Hgr _ rfl)
        have hy := h.ok.lim k
        obtain ⟨ad, rfl, hadb, hc2⟩ := (h.grown Hgr.out (by have := hr.lt; omega) hB).cell hkm
        go_wp2
        rw [show Value.int .u32 ((↑cy + ↑(lim ys k) + ↑(lim zr (off + k))) % 4294967296) = Value.int .u32 (((cy + lim ys k + lim zr (off + k)) % 4294967296 : Nat) : Int) by go_num]
        exact ⟨⟨k + 1, (cy + lim ys k + lim zr (off + k)) / 4294967296, _, by omega, by go_num, by go_num, by omega, R.out⟩, by simp [intOf]; omega⟩
      · by_cases hcz : cy = 0
        · subst hcz
          have e0 := sl_val h (k := k) (by omega)
          have E0 := Lib.hid e0
          clear e0
          go_wp2
          refine bodyPost_ret (results_none rfl _ _ _) rfl ⟨rfl, zr, 0, by omega, Hrow.out, Hok.out, Hsame.out.mono (Nat.le_refl _) (by omega), ?_, Hgr.out⟩
          have e := Hval.out
          rw [E0.out] at e
          have a := wv_add zr off k (n - k)
          have b := wv_add zs off k (n - k)
          rw [Nat.add_sub_cancel' hk] at a b
          rw [a, b, Hsame.out.wv_past (.inr (Nat.le_refl _))]
          omega
        · obtain rfl : cy = 1 := by omega
          have hy := Lib.hid (sl_lim_past h (k := k) (by omega))
          have R := Lib.hid (add_rel hlt Hrow Hok Hsame Hval Hgr (1 + lim zr (off + k)) (by rw [hy.out]))
          go_wp2
          rw [show Value.int .u32 ((1 + ↑(lim zr (off + k))) % 4294967296) = Value.int .u32 (((1 + lim zr (off + k)) % 4294967296 : Nat) : Int) by go_num]
          exact ⟨⟨k + 1, (1 + lim zr (off + k)) / 4294967296, _, by omega, by go_num, by go_num, by omega, R.out⟩, by simp [intOf]; omega⟩
    · have E0 := Lib.hid (sl_val h (k := k) (by omega))
      obtain rfl : k = n := by omega
      go_wp2
      go_end0
      refine ⟨rfl, zr, cy, hcy, Hrow.out, Hok.out, Hsame.out, ?_, Hgr.out⟩
      rw [← E0.out]; exact Hval.out

theorem wrap64_neg (x : Int) (h1 : -18446744073709551616 ≤ x) (h2 : x < 0) : IntKind.u64.wrap x = x + 18446744073709551616 := by
  simp only [IntKind.wrap_u64]; omega
theorem sub_rel {w wr : World} {zs zr ys : List Nat} {g off k cy : Nat} (hlt : off + k < zr.length) (Hrow : Hid (Row wr g zr)) (Hok : Hid (Ok zr)) (Hsame : Hid (Same zs zr off (off + k)))
    (Hval : Hid (wv zr off k + val (ys.take k) = wv zs off k + 4294967296 ^ k * cy)) (Hgr : Hid (w.grownBy wr (some g))) (v c' : Nat) (hv : v < 4294967296) (hs : v + cy + lim ys k = lim zr (off + k) + 4294967296 * c') :
    Hid (Row (wr.setCell ⟨g, off + k, none⟩ (.int .u32 (v : Int))) g (zr.set (off + k) v)) ∧ Hid (Ok (zr.set (off + k) v)) ∧
    Hid (Same zs (zr.set (off + k) v) off (off + (k + 1))) ∧
    Hid (wv (zr.set (off + k) v) off (k + 1) + val (ys.take (k + 1)) = wv zs off (k + 1) + 4294967296 ^ (k + 1) * c') ∧
    Hid (w.grownBy (wr.setCell ⟨g, off + k, none⟩ (.int .u32 (v : Int))) (some g)) := by
  refine ⟨Hrow.out.set _ _, Hok.out.set _ hv, Hsame.out.snoc _, ?_, grown_set Hgr.out _ _⟩
  rw [Hid, wv_set_end hlt, wv_succ, val_take_succ, Nat.pow_succ]
  have e := Hsame.out.2 (off + k) (.inr (Nat.le_refl _))
  exact sub_step (by rw [hs, e]) Hval.out

set_option maxHeartbeats 1000000 in
theorem subFrom_any (g off n c B m d : Nat) (A : Option Addr) (zs ys : List Nat) (w : World) (hr : Row w g zs) (hoff : off + n ≤ zs.length) (hz : Ok zs) (hl : off + n ≤ 35184372088832)
    (h : Sl w B A m d ys) (hB : B ≤ g) (hmn : m ≤ n) (hle : val ys ≤ wv zs off n) :
    Calls Try.prog 91 #[.slice (some ⟨g, off, none⟩) n c, .slice A m d] w fun e w' => e = .returned (.tuple #[]) ∧ ∃ zs', Row w' g zs' ∧ Ok zs' ∧ Same zs zs' off (off + n) ∧
      wv zs' off n + val ys = wv zs off n ∧ w.grownBy w' (some g) := by
  have Hle := Lib.hid hle
  clear hle
  go_enter Try.func91, Try.ntmps91
  go_wp2
  go_loopw [4, 9] (fun cv iv wr => ∃ (k cy : Nat) (zr : List Nat), k ≤ n ∧ iv = .int .i64 k ∧ cv = .int .u64 cy ∧ cy ≤ 1 ∧ Hid (Row wr g zr) ∧ Hid (Ok zr) ∧ Hid (Same zs zr off (off + k)) ∧
      Hid (wv zr off k + val (ys.take k) = wv zs off k + 4294967296 ^ k * cy) ∧ Hid (w.grownBy wr (some g))) (fun _ iv _ => n - (intOf iv).toNat)
  case atStart => exact ⟨0, 0, zs, by omega, rfl, rfl, by omega, hr, hz, Same.refl _ _ _, rfl, World.grownBy.refl w _⟩
  case round =>
    obtain ⟨k, cy, zr, hk, rfl, rfl, hcy, Hrow, Hok, Hsame, Hval, Hgr⟩ := hrel
    by_cases hkn : k < n
    · have hlt : off + k < zr.length := by have := Hsame.out.1; omega
      have hc1 := Hrow.out.cell hlt
      have hf1 := Hrow.out.free (off + k)
      have ht := Hok.out.lim (off + k)
      by_cases hkm : k < m
      · have hy := h.ok.lim k
        by_cases hb : cy + lim ys k ≤ lim zr (off + k)
        · have R := Lib.hid (sub_rel hlt Hrow Hok Hsame Hval Hgr (lim zr (off + k) - (cy + lim ys k)) 0 (by omega) (by omega))
          obtain ⟨ad, rfl, hadb, hc2⟩ := (h.grown Hgr.out (by have := hr.lt; omega) hB).cell hkm
          go_wp2
          rw [show (↑(lim zr (off + k)) - (↑cy + ↑(lim ys k)) : Int) = ((lim zr (off + k) - (cy + lim ys k) : Nat) : Int) by omega]
          exact ⟨⟨k + 1, 0, _, by omega, by go_num, by go_num, by omega, R.out⟩, by simp [intOf]; omega⟩
        · have R := Lib.hid (sub_rel hlt Hrow Hok Hsame Hval Hgr (lim zr (off + k) + 4294967296 - (cy + lim ys k)) 1 (by omega) (by omega))
          obtain ⟨ad, rfl, hadb, hc2⟩ := (h.grown Hgr.out (by have := hr.lt; omega) hB).cell hkm
          go_wp2
          rw [wrap64_neg (↑(lim zr (off + k)) - (↑cy + ↑(lim ys k))) (by omega) (by omega),
            show ((↑(lim zr (off + k)) - (↑cy + ↑(lim ys k)) + 18446744073709551616) % 4294967296 : Int) = ((lim zr (off + k) + 4294967296 - (cy + lim ys k) : Nat) : Int) by omega]
          exact ⟨⟨k + 1, 1, _, by omega, by go_num, by go_num, by omega, R.out⟩, by simp [intOf]; omega⟩
      · by_cases hcz : cy = 0
        · subst hcz
          have e0 := sl_val h (k := k) (by omega)
          have E0 := Lib.hid e0
          clear e0
          go_wp2
          refine bodyPost_ret (results_none rfl _ _ _) rfl ⟨rfl, zr, Hrow.out, Hok.out, Hsame.out.mono (Nat.le_refl _) (by omega), ?_, Hgr.out⟩
          have e := Hval.out
          rw [E0.out] at e
          have a := wv_add zr off k (n - k)
          have b := wv_add zs off k (n - k)
          rw [Nat.add_sub_cancel' hk] at a b
          rw [a, b, Hsame.out.wv_past (.inr (Nat.le_refl _))]
          omega
        · obtain rfl : cy = 1 := by omega
          have hy := Lib.hid (sl_lim_past h (k := k) (by omega))
          by_cases hb : 1 ≤ lim zr (off + k)
          · have R := Lib.hid (sub_rel hlt Hrow Hok Hsame Hval Hgr (lim zr (off + k) - 1) 0 (by omega) (by rw [hy.out]; omega))
            go_wp2
            rw [show (↑(lim zr (off + k)) - 1 : Int) = ((lim zr (off + k) - 1 : Nat) : Int) by omega]
            exact ⟨⟨k + 1, 0, _, by omega, by go_num, by go_num, by omega, R.out⟩, by simp [intOf]; omega⟩
          · have R := Lib.hid (sub_rel hlt Hrow Hok Hsame Hval Hgr 4294967295 1 (by omega) (by rw [hy.out]; omega))
            go_wp2
            rw [wrap64_neg (↑(lim zr (off + k)) - 1) (by omega) (by omega),
              show ((↑(lim zr (off + k)) - 1 + 18446744073709551616) % 4294967296 : Int) = ((4294967295 : Nat) : Int) by omega]
            exact ⟨⟨k + 1, 1, _, by omega, by go_num, by go_num, by omega, R.out⟩, by simp [intOf]; omega⟩
    · have E0 := Lib.hid (sl_val h (k := k) (by omega))
      obtain rfl : k = n := by omega
      go_wp2
      go_end0
      refine ⟨rfl, zr, Hrow.out, Hok.out, Hsame.out, ?_, Hgr.out⟩
      have a := Hval.out
      rw [E0.out] at a
      have b := wv_lt Hok.out off k
      have c := Hle.out
      rcases Nat.lt_or_ge cy 1 with h1 | h1
      · obtain rfl : cy = 0 := by omega
        omega
      · obtain rfl : cy = 1 := by omega
        omega

end Go.Proofs.Ytalgcppogjpilaa
