/-
  RefBit, RefDouble, RefNew, RefShort, merged.
-/
import Derived.Test.YtalgcppogjpilaaRefRight
import Derived.Test.YtalgcppogjpilaaRefSub

namespace Go.Proofs.Ytalgcppogjpilaa
open Go.RowKit

theorem bit_limb (a D t : Nat) (ht : t < 32) : (a + 4294967296 * D) / 2 ^ t % 2 = a / 2 ^ t % 2 := by
  have e : 4294967296 * D = 2 ^ t * (2 * (2 ^ (31 - t) * D)) := by
    rw [show (4294967296 : Nat) = 2 ^ t * 2 * 2 ^ (31 - t) by
      rw [← Nat.pow_succ, ← Nat.pow_add, show t + 1 + (31 - t) = 32 by omega]]
    rw [Nat.mul_assoc, Nat.mul_assoc]
  rw [e, Nat.add_mul_div_left _ _ (Nat.pow_pos (by decide)), Nat.add_mul_mod_self_left]
theorem bit_in {xs : List Nat} {i k t : Nat} (hx : Ok xs) (hi : i = 32 * k + t) (ht : t < 32) (hk : k < xs.length) : val xs / 2 ^ i % 2 = lim xs k / 2 ^ t % 2 := by
  have a := val_lt (hx.take k)
  rw [List.length_take, Nat.min_eq_left (Nat.le_of_lt hk)] at a
  have e : val xs = val (xs.take k) + 4294967296 ^ k * val (xs.drop k) := by
    rw [← List.take_append_drop k xs, val_app, List.take_append_drop, List.length_take, Nat.min_eq_left (Nat.le_of_lt hk)]
  rw [hi, Nat.pow_add, ← Nat.div_div_eq_div_mul, show (2 : Nat) ^ (32 * k) = 4294967296 ^ k by rw [Nat.pow_mul], e, Nat.add_mul_div_left _ _ (Nat.pow_pos (by decide)), Nat.div_eq_of_lt a, Nat.zero_add, val_drop xs k hk]
  exact bit_limb _ _ _ ht
theorem bit_out {xs : List Nat} {i k : Nat} (hx : Ok xs) (hi : 32 * k ≤ i) (hk : xs.length ≤ k) : val xs / 2 ^ i % 2 = 0 := by
  have a := val_lt hx
  have b : 4294967296 ^ xs.length ≤ 2 ^ i := by
    rw [show (4294967296 : Nat) = 2 ^ 32 by decide, ← Nat.pow_mul]
    exact Nat.pow_le_pow_right (by decide) (by omega)
  rw [Nat.div_eq_of_lt (Nat.lt_of_lt_of_le a b)]

set_option maxHeartbeats 400000 in
theorem rbit_any (A : Option Addr) (n c B i k t v : Nat) (xs : List Nat) (w : World) (h : Sl w B A n c xs) (hi : i ≤ 1000000) (hl : (i : Int) / 32 = (k : Int)) (ht : (i : Int) % 32 = (t : Int)) (hv : val xs / 2 ^ i % 2 = v) :
    Calls Try.prog 69 #[.slice A n c, .int .i64 (i : Int)] w fun e w' => e = .returned (.int .u32 (v : Int)) ∧ w' = w := by
  have hcap := h.cap
  have hcr := h.capr
  have Hl := Lib.hid h.len
  by_cases hk : k < n
  · have Hv := Lib.hid (bit_in h.ok (show i = 32 * k + t by omega) (by omega) (by rw [h.len]; exact hk))
    have HV := Lib.hid hv
    clear hv
    obtain ⟨ad, rfl, hadb, hc1⟩ := h.cell (k := k) hk
    have hx1 := h.ok.lim k
    go_enter Try.func69, Try.ntmps69
    go_wp2
    have e : bits BinOp.and IntKind.u32 ((lim xs k : Int) / 2 ^ t) 1 = (v : Int) := by
      have q : lim xs k / 2 ^ t ≤ lim xs k := Nat.div_le_self _ _
      rw [show ((lim xs k : Int) / 2 ^ t) = ((lim xs k / 2 ^ t : Nat) : Int) by rw [Int.natCast_ediv, Int.natCast_pow]; rfl]
      have r := u32_and_nat (lim xs k / 2 ^ t) 1 (by omega) (by decide)
      rw [Nat.and_one_is_mod, ← Hv.out, HV.out] at r
      exact r
    rw [e]
    go_ret
    exact ⟨rfl, rfl⟩
  · have Hv := Lib.hid (bit_out (k := k) h.ok (show 32 * k ≤ i by omega) (by rw [h.len]; omega))
    obtain rfl : v = 0 := by rw [← hv]; exact Hv.out
    clear hv
    go_enter Try.func69, Try.ntmps69
    go_wp2
    go_ret
    exact ⟨rfl, rfl⟩

end Go.Proofs.Ytalgcppogjpilaa

namespace Go.Proofs.Ytalgcppogjpilaa
open Go.RowKit

theorem double_step {P W cy b v2 l s : Nat} (hs : s = 2 * l + cy) (h : W + P * cy = 2 * v2 + b) : W + P * (s % 4294967296) + P * 4294967296 * (s / 4294967296) = 2 * (v2 + P * l) + b := by
  have e : P * (s % 4294967296) + P * 4294967296 * (s / 4294967296) = P * s := by rw [Nat.mul_assoc, ← Nat.mul_add, Nat.mod_add_div]
  have f : P * s = 2 * (P * l) + P * cy := by rw [hs, Nat.mul_add, Nat.mul_left_comm]
  generalize P * l = x at *
  generalize P * cy = y at *
  generalize P * s = z at *
  generalize P * (s % 4294967296) = t1 at *
  generalize P * 4294967296 * (s / 4294967296) = t2 at *
  omega
/-- The relation of double, one limb on. -/
theorem double_rel {w wr : World} {zr xs : List Nat} {g k m cy b : Nat} (hlt : k < m) (hm : zr.length = m) (Hrow : Hid (Row wr g zr)) (Hok : Hid (Ok zr))
    (Hval : Hid (wv zr 0 k + 4294967296 ^ k * cy = 2 * val (xs.take k) + b)) (Hb : Hid (Below g w wr)) (s : Nat) (hs : s = 2 * lim xs k + cy) :
    Hid ((zr.set k (s % 4294967296)).length = m) ∧ Hid (Row (wr.setCell ⟨g, k, none⟩ (.int .u32 ((s % 4294967296 : Nat) : Int))) g (zr.set k (s % 4294967296))) ∧ Hid (Ok (zr.set k (s % 4294967296))) ∧
    Hid (wv (zr.set k (s % 4294967296)) 0 (k + 1) + 4294967296 ^ (k + 1) * (s / 4294967296) = 2 * val (xs.take (k + 1)) + b) ∧
    Hid (Below g w (wr.setCell ⟨g, k, none⟩ (.int .u32 ((s % 4294967296 : Nat) : Int)))) := by
  refine ⟨by rw [Hid, List.length_set, hm], Hrow.out.set _ _, Hok.out.set _ (by omega), ?_, Hb.out.setCell (Nat.le_refl _) _⟩
  have e := wv_set_end (zs := zr) (off := 0) (k := k) (v := s % 4294967296) (by omega)
  rw [Nat.zero_add] at e
  rw [Hid, e, val_take_succ, Nat.pow_succ]
  exact double_step hs Hval.out

set_option maxHeartbeats 1000000 in
theorem rdouble_any (A : Option Addr) (n c b : Nat) (xs : List Nat) (w : World) (h : Sl w w.heap.size A n c xs) (hn : n ≤ 1000000) (hb : b ≤ 1) :
    Calls Try.prog 75 #[.slice A n c, .int .u32 (b : Int)] w (RetNum (2 * val xs + b) w) := by
  have hcap := h.cap
  have hcr := h.capr
  have Hl := Lib.hid h.len
  have hmk := make_any ((n : Int) + 1) (n + 1) (by omega) (by omega)
  have Hrow := Lib.hid (Row.made w (n + 1))
  have Hb0 := Lib.hid ((Below.refl w.heap.size w).alloc (Nat.le_refl _) (.cells (zrow (n + 1)) 51))
  go_enter Try.func75, Try.ntmps75
  go_wp2
  go_loopw [1, 6] (fun cv iv wr => ∃ (k cy : Nat) (zr : List Nat), k ≤ n ∧ iv = .int .i64 k ∧ cv = .int .u32 cy ∧ cy ≤ 1 ∧ Hid (zr.length = n + 1) ∧ Hid (Row wr w.heap.size zr) ∧ Hid (Ok zr) ∧
      Hid (wv zr 0 k + 4294967296 ^ k * cy = 2 * val (xs.take k) + b) ∧ Hid (Below w.heap.size w wr)) (fun _ iv _ => n + 1 - (intOf iv).toNat)
  case atStart => exact ⟨0, b, List.replicate (n + 1) 0, by omega, rfl, rfl, hb, by rw [Hid, List.length_replicate], Hrow.out, ok_zeros _, by simp [Hid, wv, val], Hb0.out⟩
  case round =>
    obtain ⟨k, cy, zr, hk, rfl, rfl, hcy, Hlen, Hrw, Hok, Hval, Hb⟩ := hrel
    by_cases hkn : k < n
    · have hc1 := Hrw.out.cell (i := k) (by rw [Hlen.out]; omega)
      have hf1 := Hrw.out.free k
      have R := Lib.hid (double_rel (xs := xs) (show k < n + 1 by omega) Hlen.out Hrw Hok Hval Hb _ rfl)
      have lx := h.ok.lim k
      have hk2 : k < n + 1 := by omega
      obtain ⟨ad, rfl, _, hcx⟩ := (h.below Hb.out).cell hkn
      have hcx2 : (wr.setCell ⟨w.heap.size, k, none⟩ (.int .u32 (((2 * lim xs k + cy) % 4294967296 : Nat) : Int))).cell? (ad.add k) = some (.int .u32 (lim xs k : Nat)) :=
        ((h.below R.out.2.2.2.2.out).cell hkn).elim fun a q => by obtain ⟨e, _, hc⟩ := q; cases e; exact hc
      have e9 : (((2 * lim xs k + cy) % 4294967296 : Nat) : Int) = (lim xs k : Int) * 2 % 4294967296 + (cy : Int) := by omega
      have e8 : (lim xs k : Int) / 2147483648 = (((2 * lim xs k + cy) / 4294967296 : Nat) : Int) := by omega
      rw [e9] at hcx2
      have E9 := Lib.hid (And.intro e9 e8)
      clear e9 e8
      go_wp2
      rw [← E9.out.1, E9.out.2]
      exact ⟨⟨k + 1, (2 * lim xs k + cy) / 4294967296, _, by omega, by go_num, rfl, by omega, R.out⟩, by simp [intOf]; omega⟩
    · obtain rfl : k = n := by omega
      have hc1 := Hrw.out.cell (i := k) (by rw [Hlen.out]; omega)
      have hf1 := Hrw.out.free k
      have Hz2 := Lib.hid (Hrw.out.set k cy)
      have Hok2 := Lib.hid (Hok.out.set k (v := cy) (by omega))
      have Hv2 := Lib.hid (show val (zr.set k cy) = 2 * val xs + b by
        have e := wv_set_end (zs := zr) (off := 0) (k := k) (v := cy) (by rw [Hlen.out]; omega)
        rw [Nat.zero_add] at e
        have v := Hval.out
        rw [List.take_of_length_le (by rw [Hl.out]; exact Nat.le_refl _)] at v
        rw [← wv_all (zr.set k cy) (k := k + 1) (by rw [List.length_set, Hlen.out]; exact Nat.le_refl _), e, v])
      have Hb2 := Lib.hid (Hb.out.setCell (p := ⟨w.heap.size, k, none⟩) (Nat.le_refl _) (.int .u32 (cy : Int)))
      have hsl := Hz2.out.sl (B := (wr.setCell ⟨w.heap.size, k, none⟩ (.int .u32 (cy : Int))).heap.size) (n := k + 1) (c := k + 1) Hz2.out.lt 0 (by rw [List.length_set, Hlen.out]; omega) (Nat.le_refl _) (by omega) Hok2.out
      rw [List.drop_zero, List.take_of_length_le (by rw [List.length_set, Hlen.out]; omega)] at hsl
      have hk3 : k < k + 1 := by omega
      go_wp2_with fail
      refine (rtrim_any _ _ _ _ _ _ hsl).mono ?_
      rintro e w3 ⟨⟨j, hj, rfl, hnz, hv⟩, rfl⟩
      have HV := Lib.hid hv
      clear hv
      go_wp2
      go_ret
      exact ⟨_, _, _, _, rfl, hsl.to hj, hnz, by rw [HV.out]; exact Hv2.out, Hb2.out⟩

end Go.Proofs.Ytalgcppogjpilaa

namespace Go.Proofs.Ytalgcppogjpilaa
open Go.RowKit

/-- A number is handed back, in the block that the call made first. -/
def RetNumN (N : Nat) (w : World) (e : Ending) (w' : World) : Prop := ∃ n c xs, e = .returned (.slice (some ⟨w.heap.size, 0, none⟩) n c) ∧ Sl w' w'.heap.size (some ⟨w.heap.size, 0, none⟩) n c xs ∧ Nz xs ∧ val xs = N ∧ Below w.heap.size w w'

set_option maxHeartbeats 1000000 in
theorem rdouble_new (A : Option Addr) (n c b : Nat) (xs : List Nat) (w : World) (h : Sl w w.heap.size A n c xs) (hn : n ≤ 1000000) (hb : b ≤ 1) :
    Calls Try.prog 75 #[.slice A n c, .int .u32 (b : Int)] w (RetNumN (2 * val xs + b) w) := by
  have hcap := h.cap
  have hcr := h.capr
  have Hl := Lib.hid h.len
  have hmk := make_any ((n : Int) + 1) (n + 1) (by omega) (by omega)
  have Hrow := Lib.hid (Row.made w (n + 1))
  have Hb0 := Lib.hid ((Below.refl w.heap.size w).alloc (Nat.le_refl _) (.cells (zrow (n + 1)) 51))
  go_enter Try.func75, Try.ntmps75
  go_wp2
  go_loopw [1, 6] (fun cv iv wr => ∃ (k cy : Nat) (zr : List Nat), k ≤ n ∧ iv = .int .i64 k ∧ cv = .int .u32 cy ∧ cy ≤ 1 ∧ Hid (zr.length = n + 1) ∧ Hid (Row wr w.heap.size zr) ∧ Hid (Ok zr) ∧
      Hid (wv zr 0 k + 4294967296 ^ k * cy = 2 * val (xs.take k) + b) ∧ Hid (Below w.heap.size w wr)) (fun _ iv _ => n + 1 - (intOf iv).toNat)
  case atStart => exact ⟨0, b, List.replicate (n + 1) 0, by omega, rfl, rfl, hb, by rw [Hid, List.length_replicate], Hrow.out, ok_zeros _, by simp [Hid, wv, val], Hb0.out⟩
  case round =>
    obtain ⟨k, cy, zr, hk, rfl, rfl, hcy, Hlen, Hrw, Hok, Hval, Hb⟩ := hrel
    by_cases hkn : k < n
    · have hc1 := Hrw.out.cell (i := k) (by rw [Hlen.out]; omega)
      have hf1 := Hrw.out.free k
      have R := Lib.hid (double_rel (xs := xs) (show k < n + 1 by omega) Hlen.out Hrw Hok Hval Hb _ rfl)
      have lx := h.ok.lim k
      have hk2 : k < n + 1 := by omega
      obtain ⟨ad, rfl, _, hcx⟩ := (h.below Hb.out).cell hkn
      have hcx2 : (wr.setCell ⟨w.heap.size, k, none⟩ (.int .u32 (((2 * lim xs k + cy) % 4294967296 : Nat) : Int))).cell? (ad.add k) = some (.int .u32 (lim xs k : Nat)) :=
        ((h.below R.out.2.2.2.2.out).cell hkn).elim fun a q => by obtain ⟨e, _, hc⟩ := q; cases e; exact hc
      have e9 : (((2 * lim xs k + cy) % 4294967296 : Nat) : Int) = (lim xs k : Int) * 2 % 4294967296 + (cy : Int) := by omega
      have e8 : (lim xs k : Int) / 2147483648 = (((2 * lim xs k + cy) / 4294967296 : Nat) : Int) := by omega
      rw [e9] at hcx2
      have E9 := Lib.hid (And.intro e9 e8)
      clear e9 e8
      go_wp2
      rw [← E9.out.1, E9.out.2]
      exact ⟨⟨k + 1, (2 * lim xs k + cy) / 4294967296, _, by omega, by go_num, rfl, by omega, R.out⟩, by simp [intOf]; omega⟩
    · obtain rfl : k = n := by omega
      have hc1 := Hrw.out.cell (i := k) (by rw [Hlen.out]; omega)
      have hf1 := Hrw.out.free k
      have Hz2 := Lib.hid (Hrw.out.set k cy)
      have Hok2 := Lib.hid (Hok.out.set k (v := cy) (by omega))
      have Hv2 := Lib.hid (show val (zr.set k cy) = 2 * val xs + b by
        have e := wv_set_end (zs := zr) (off := 0) (k := k) (v := cy) (by rw [Hlen.out]; omega)
        rw [Nat.zero_add] at e
        have v := Hval.out
        rw [List.take_of_length_le (by rw [Hl.out]; exact Nat.le_refl _)] at v
        rw [← wv_all (zr.set k cy) (k := k + 1) (by rw [List.length_set, Hlen.out]; exact Nat.le_refl _), e, v])
      have Hb2 := Lib.hid (Hb.out.setCell (p := ⟨w.heap.size, k, none⟩) (Nat.le_refl _) (.int .u32 (cy : Int)))
      have hsl := Hz2.out.sl (B := (wr.setCell ⟨w.heap.size, k, none⟩ (.int .u32 (cy : Int))).heap.size) (n := k + 1) (c := k + 1) Hz2.out.lt 0 (by rw [List.length_set, Hlen.out]; omega) (Nat.le_refl _) (by omega) Hok2.out
      rw [List.drop_zero, List.take_of_length_le (by rw [List.length_set, Hlen.out]; omega)] at hsl
      have hk3 : k < k + 1 := by omega
      go_wp2_with fail
      refine (rtrim_any _ _ _ _ _ _ hsl).mono ?_
      rintro e w3 ⟨⟨j, hj, rfl, hnz, hv⟩, rfl⟩
      have HV := Lib.hid hv
      clear hv
      go_wp2
      go_ret
      exact ⟨_, _, _, rfl, hsl.to hj, hnz, by rw [HV.out]; exact Hv2.out, Hb2.out⟩

set_option maxHeartbeats 2000000 in
theorem rminus_new (A A' : Option Addr) (n c n' c' : Nat) (xs ys : List Nat) (w : World) (h : Sl w w.heap.size A n c xs) (h' : Sl w w.heap.size A' n' c' ys) (hy : Nz ys) (hle : val ys ≤ val xs) :
    Calls Try.prog 58 #[.slice A n c, .slice A' n' c'] w (RetNumN (val xs - val ys) w) := by
  have hn : n' ≤ n := by
    rcases Nat.lt_or_ge n n' with hlt | hge
    · have := val_lt_of_length h.ok hy (by rw [h.len, h'.len]; exact hlt)
      omega
    · exact hge
  have Hle := Lib.hid hle
  clear hle
  have hreach := h.reach
  have Hx := Lib.hid (sl_val h (k := n) (Nat.le_refl _))
  have Hy := Lib.hid (sl_val h' (k := n) hn)
  have hmk := make_any (n : Int) n rfl (by omega)
  have Hrow := Lib.hid (Row.made w n)
  have Hb0 := Lib.hid ((Below.refl w.heap.size w).alloc (Nat.le_refl _) (.cells (zrow n) 51))
  go_enter Try.func58, Try.ntmps58
  go_wp2
  go_loopw [6, 7] (fun cv iv wr => ∃ (k cy : Nat) (zr : List Nat), k ≤ n ∧ iv = .int .i64 k ∧ cv = .int .u64 cy ∧ cy ≤ 1 ∧ Hid (zr.length = n) ∧ Hid (Row wr w.heap.size zr) ∧ Hid (Ok zr) ∧
      Hid (wv zr 0 k + val (ys.take k) = val (xs.take k) + 4294967296 ^ k * cy) ∧ Hid (Below w.heap.size w wr)) (fun _ iv _ => n - (intOf iv).toNat)
  case atStart => exact ⟨0, 0, List.replicate n 0, by omega, rfl, rfl, by omega, by rw [Hid, List.length_replicate], Hrow.out, ok_zeros _, by simp [Hid, wv, val], Hb0.out⟩
  case round =>
    obtain ⟨k, cy, zr, hk, rfl, rfl, hcy, Hlen, Hrw, Hok, Hval, Hb⟩ := hrel
    by_cases hkn : k < n
    · have hc1 := Hrw.out.cell (i := k) (by rw [Hlen.out]; exact hkn)
      have hf1 := Hrw.out.free k
      have lx := h.ok.lim k
      have ly := h'.ok.lim k
      obtain ⟨ad, rfl, _, hcx⟩ := (h.below Hb.out).cell hkn
      by_cases k2 : k < n'
      · obtain ⟨ad', rfl, _, hcy'⟩ := (h'.below Hb.out).cell k2
        by_cases hb : lim xs k < cy + lim ys k
        · have R := Lib.hid (rminus_rel (xs := xs) (ys := ys) hkn Hlen.out Hrw Hok Hval Hb (lim xs k + 4294967296 - (cy + lim ys k)) 1 (by omega) (by omega))
          go_wp2
          rw [show ((↑(lim xs k) + 4294967296 - (↑cy + ↑(lim ys k))) : Int) = ((lim xs k + 4294967296 - (cy + lim ys k) : Nat) : Int) by omega]
          exact ⟨⟨k + 1, 1, _, by omega, by go_num, by go_num, by omega, R.out⟩, by simp [intOf]; omega⟩
        · have R := Lib.hid (rminus_rel (xs := xs) (ys := ys) hkn Hlen.out Hrw Hok Hval Hb (lim xs k - (cy + lim ys k)) 0 (by omega) (by omega))
          go_wp2
          rw [show ((↑(lim xs k) - (↑cy + ↑(lim ys k))) : Int) = ((lim xs k - (cy + lim ys k) : Nat) : Int) by omega]
          exact ⟨⟨k + 1, 0, _, by omega, by go_num, by go_num, by omega, R.out⟩, by simp [intOf]; omega⟩
      · have Z := Lib.hid (sl_lim_past h' (k := k) (by omega))
        by_cases hb : lim xs k < cy
        · have R := Lib.hid (rminus_rel (xs := xs) (ys := ys) hkn Hlen.out Hrw Hok Hval Hb (lim xs k + 4294967296 - cy) 1 (by omega) (by rw [Z.out]; omega))
          go_wp2
          rw [show ((↑(lim xs k) + 4294967296 - ↑cy) : Int) = ((lim xs k + 4294967296 - cy : Nat) : Int) by omega]
          exact ⟨⟨k + 1, 1, _, by omega, by go_num, by go_num, by omega, R.out⟩, by simp [intOf]; omega⟩
        · have R := Lib.hid (rminus_rel (xs := xs) (ys := ys) hkn Hlen.out Hrw Hok Hval Hb (lim xs k - cy) 0 (by omega) (by rw [Z.out]; omega))
          go_wp2
          rw [show ((↑(lim xs k) - ↑cy) : Int) = ((lim xs k - cy : Nat) : Int) by omega]
          exact ⟨⟨k + 1, 0, _, by omega, by go_num, by go_num, by omega, R.out⟩, by simp [intOf]; omega⟩
    · obtain rfl : k = n := by omega
      have hz := Hrw.out.lt
      have hsl := Hrw.out.sl (B := wr.heap.size) (n := k) (c := k) hz 0 (by rw [Hlen.out]; omega) (Nat.le_refl _) (by omega) Hok.out
      rw [List.drop_zero, List.take_of_length_le (by rw [Hlen.out]; omega)] at hsl
      have He : Hid (val zr = val xs - val ys) := by
        have a := Hval.out
        rw [Hx.out, Hy.out, wv_all zr (by rw [Hlen.out]; omega)] at a
        have b := val_lt Hok.out
        rw [Hlen.out] at b
        have c := Hle.out
        rcases Nat.lt_or_ge cy 1 with h1 | h1
        · obtain rfl : cy = 0 := by omega
          show val zr = val xs - val ys
          omega
        · obtain rfl : cy = 1 := by omega
          show val zr = val xs - val ys
          omega
      go_wp2_with fail
      refine (rtrim_any _ _ _ _ zr wr hsl).mono ?_
      rintro e w3 ⟨⟨j, hj, rfl, hnz, hv⟩, rfl⟩
      have HV := Lib.hid hv
      clear hv
      go_wp2
      go_ret
      exact ⟨_, _, _, rfl, hsl.to hj, hnz, by rw [HV.out]; exact He.out, Hb.out⟩

end Go.Proofs.Ytalgcppogjpilaa

namespace Go.Proofs.Ytalgcppogjpilaa
open Go.RowKit

theorem short_step {d Z r l T X : Nat} (hT : T = 4294967296 * r + l) (hX : X = d * Z + r) : l + 4294967296 * X = d * (T / d + 4294967296 * Z) + T % d := by
  have e := Nat.div_add_mod T d
  rw [hX, Nat.mul_add, Nat.mul_add, Nat.mul_left_comm]
  generalize d * Z = a at *
  generalize d * (T / d) = b at *
  omega
theorem short_rel {w wr : World} {zr xs : List Nat} {g i m d r : Nat} (hlt : i < m) (hm : zr.length = m) (hx : xs.length = m) (Hrow : Hid (Row wr g zr)) (Hok : Hid (Ok zr)) (hd : 0 < d) (hr : r < d) (hxo : Ok xs)
    (Hval : Hid (val (xs.drop (i + 1)) = d * val (zr.drop (i + 1)) + r)) (Hb : Hid (Below g w wr)) (T : Nat) (hT : T = 4294967296 * r + lim xs i) :
    Hid ((zr.set i (T / d)).length = m) ∧ Hid (Row (wr.setCell ⟨g, i, none⟩ (.int .u32 ((T / d : Nat) : Int))) g (zr.set i (T / d))) ∧ Hid (Ok (zr.set i (T / d))) ∧
    Hid (val (xs.drop i) = d * val ((zr.set i (T / d)).drop i) + T % d) ∧ Hid (Below g w (wr.setCell ⟨g, i, none⟩ (.int .u32 ((T / d : Nat) : Int)))) := by
  have hq : T / d < 4294967296 := (Nat.div_lt_iff_lt_mul hd).2 (by
    have := hxo.lim i
    have := Nat.mul_le_mul_left 4294967296 (show r + 1 ≤ d from hr)
    omega)
  refine ⟨by rw [Hid, List.length_set, hm], Hrow.out.set _ _, Hok.out.set _ hq, ?_, Hb.out.setCell (Nat.le_refl _) _⟩
  rw [Hid, val_drop xs i (by omega), val_drop _ i (by rw [List.length_set]; omega), lim_set_eq (by omega), List.drop_set_of_lt (by omega)]
  exact short_step hT Hval.out

/-- A number and a limb are handed back. -/
def RetNumL (N r : Nat) (w : World) (e : Ending) (w' : World) : Prop := ∃ A n c xs, e = .returned (.tuple #[.slice A n c, .int .u32 (r : Int)]) ∧ Sl w' w'.heap.size A n c xs ∧ Nz xs ∧ val xs = N ∧ Below w.heap.size w w'

theorem short_q {X d Z r : Nat} (h : X = d * Z + r) (hr : r < d) : Z = X / d ∧ r = X % d := by
  have hd : 0 < d := by omega
  rw [h, Nat.add_comm, Nat.add_mul_div_left _ _ hd, Nat.add_mul_mod_self_left, Nat.div_eq_of_lt hr, Nat.mod_eq_of_lt hr]
  exact ⟨(Nat.zero_add _).symm, rfl⟩

set_option maxHeartbeats 1000000 in
theorem rshort_any (A : Option Addr) (n c d : Nat) (xs : List Nat) (w : World) (h : Sl w w.heap.size A n c xs) (hn : n ≤ 1000000) (hd : 0 < d) (hd2 : d < 4294967296) :
    Calls Try.prog 83 #[.slice A n c, .int .u32 (d : Int)] w (RetNumL (val xs / d) (val xs % d) w) := by
  have hcap := h.cap
  have hcr := h.capr
  have Hl := Lib.hid h.len
  have hmk := make_any (n : Int) n (by omega) (by omega)
  have Hrow := Lib.hid (Row.made w n)
  have Hb0 := Lib.hid ((Below.refl w.heap.size w).alloc (Nat.le_refl _) (.cells (zrow n) 51))
  have hd0 : ((d : Int) == 0) = false := by rw [beq_eq_false_iff_ne]; omega
  go_enter Try.func83, Try.ntmps83
  go_wp2
  go_loopw [7, 8] (fun rv iv wr => ∃ (j r : Nat) (zr : List Nat), j ≤ n ∧ iv = .int .i64 ((j : Int) - 1) ∧ rv = .int .u64 r ∧ r < d ∧ Hid (zr.length = n) ∧ Hid (Row wr w.heap.size zr) ∧ Hid (Ok zr) ∧
      Hid (val (xs.drop j) = d * val (zr.drop j) + r) ∧ Hid (Below w.heap.size w wr)) (fun _ iv _ => (intOf iv + 1).toNat)
  case atStart => exact ⟨n, 0, List.replicate n 0, Nat.le_refl _, rfl, rfl, hd, by rw [Hid, List.length_replicate], Hrow.out, ok_zeros _, by rw [Hid, List.drop_of_length_le (by rw [Hl.out]; exact Nat.le_refl _), List.drop_of_length_le (by rw [List.length_replicate]; exact Nat.le_refl _)]; rfl, Hb0.out⟩
  case round =>
    obtain ⟨j, r, zr, hj, rfl, rfl, hr, Hlen, Hrw, Hok, Hval, Hb⟩ := hrel
    by_cases hj0 : 0 < j
    · obtain ⟨i, rfl⟩ : ∃ i, j = i + 1 := ⟨j - 1, by omega⟩
      have hi : i < n := by omega
      have hc1 := Hrw.out.cell (i := i) (by rw [Hlen.out]; omega)
      have hf1 := Hrw.out.free i
      have lx := h.ok.lim i
      have R := Lib.hid (short_rel (xs := xs) hi Hlen.out Hl.out Hrw Hok hd hr h.ok Hval Hb _ rfl)
      obtain ⟨ad, rfl, _, hcx⟩ := (h.below Hb.out).cell hi
      have e1 : ((i + 1 : Nat) : Int) - 1 = (i : Int) := by omega
      rw [e1]
      obtain ⟨T, hT⟩ : ∃ T, T = 4294967296 * r + lim xs i := ⟨_, rfl⟩
      rw [← hT] at R
      have hTi : (r : Int) * 4294967296 + (lim xs i : Int) = (T : Int) := by omega
      have hT9 : T < 18446744073709551616 := by omega
      have hTq : T / d < 4294967296 := (Nat.div_lt_iff_lt_mul hd).2 (by
        have := Nat.mul_le_mul_left 4294967296 (show r + 1 ≤ d from hr)
        omega)
      have HT := Lib.hid hT
      clear hT e1
      go_wp2
      rw [← Int.natCast_ediv, ← Int.natCast_emod, wrap_small hTq]
      exact ⟨⟨i, T % d, _, by omega, rfl, rfl, Nat.mod_lt _ hd, R.out⟩, by simp [intOf]⟩
    · obtain rfl : j = 0 := by omega
      have Hz := Lib.hid (short_q Hval.out hr)
      rw [List.drop_zero, List.drop_zero] at Hz
      have hsl := Hrw.out.sl (B := wr.heap.size) (n := n) (c := n) Hrw.out.lt 0 (by rw [Hlen.out]; omega) (Nat.le_refl _) (by omega) Hok.out
      rw [List.drop_zero, List.take_of_length_le (by rw [Hlen.out]; exact Nat.le_refl _)] at hsl
      go_wp2_with fail
      refine (rtrim_any _ _ _ _ _ _ hsl).mono ?_
      rintro e w3 ⟨⟨j, hj, rfl, hnz, hv⟩, rfl⟩
      have HV := Lib.hid hv
      clear hv
      go_wp2
      rw [Hz.out.2]
      go_ret2
      exact ⟨_, _, _, _, rfl, hsl.to hj, hnz, by rw [HV.out]; exact Hz.out.1, Hb.out⟩

end Go.Proofs.Ytalgcppogjpilaa
