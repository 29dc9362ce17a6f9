/-
  The walk of the reference's product of magnitudes.
-/
import Derived.Test.YtalgcppogjpilaaMul
import Derived.Test.YtalgcppogjpilaaRef
namespace Go.Proofs.Ytalgcppogjpilaa
open Go.RowKit

theorem timesr_rel {w wr : World} {zs zr ys : List Nat} {g off k cy f : Nat} (hlt : off + k < zr.length) (Hrow : Hid (Row wr g zr)) (Hok : Hid (Ok zr)) (Hsame : Hid (Same zs zr off (off + k)))
    (Hval : Hid (wv zr off k + 4294967296 ^ k * cy = wv zs off k + val (ys.take k) * f)) (Hb : Hid (Below g w wr)) (s : Nat) (hs : s = f * lim ys k + lim zr (off + k) + cy) :
    Hid (Row (wr.setCell ⟨g, off + k, none⟩ (.int .u32 ((s % 4294967296 : Nat) : Int))) g (zr.set (off + k) (s % 4294967296))) ∧ Hid (Ok (zr.set (off + k) (s % 4294967296))) ∧
    Hid (Same zs (zr.set (off + k) (s % 4294967296)) off (off + (k + 1))) ∧
    Hid (wv (zr.set (off + k) (s % 4294967296)) off (k + 1) + 4294967296 ^ (k + 1) * (s / 4294967296) = wv zs off (k + 1) + val (ys.take (k + 1)) * f) ∧
    Hid (Below g w (wr.setCell ⟨g, off + k, none⟩ (.int .u32 ((s % 4294967296 : Nat) : Int)))) := by
  refine ⟨Hrow.out.set _ _, Hok.out.set _ (by omega), Hsame.out.snoc _, ?_, Hb.out.setCell (Nat.le_refl _) _⟩
  rw [Hid, wv_set_end hlt, wv_succ, val_take_succ, Nat.pow_succ, Nat.add_mul, Nat.mul_assoc (4294967296 ^ k) (lim ys k) f, Nat.mul_comm (lim ys k) f]
  have e := Hsame.out.2 (off + k) (.inr (Nat.le_refl _))
  exact add_step (b := f * lim ys k) (by rw [hs, e]; generalize f * lim ys k = p; omega) Hval.out

theorem hid_drewN' {w : World} {g i : Nat} {v : Value} {zs' : List Nat} {P Q R : Prop} {wr : World}
    (h : Hid (Row (wr.setCell ⟨g, i, none⟩ v) g zs') ∧ P ∧ Q ∧ R ∧ Hid (Below g w (wr.setCell ⟨g, i, none⟩ v))) (n : Nat) :
    Hid (Row ((wr.drewN n).setCell ⟨g, i, none⟩ v) g zs') ∧ P ∧ Q ∧ R ∧ Hid (Below g w ((wr.drewN n).setCell ⟨g, i, none⟩ v)) :=
  ⟨h.1.out, h.2.1, h.2.2.1, h.2.2.2.1, below_drewN h.2.2.2.2.out n⟩

set_option maxHeartbeats 2000000 in
theorem rtimes_any (A A' : Option Addr) (n c n' c' : Nat) (xs ys : List Nat) (w : World) (h : Sl w w.heap.size A n c xs) (h' : Sl w w.heap.size A' n' c' ys) (hn : n ≤ 1000000) (hn' : n' ≤ 1000000) :
    Calls Try.prog 62 #[.slice A n c, .slice A' n' c'] w (RetNum (val xs * val ys) w) := by
  have hmk := make_any ((n : Int) + (n' : Int)) (n + n') (by omega) (by omega)
  have Hrow := Lib.hid (Row.made w (n + n'))
  have Hb0 := Lib.hid ((Below.refl w.heap.size w).alloc (Nat.le_refl _) (.cells (zrow (n + n')) 51))
  have Hl := Lib.hid h.len
  go_enter Try.func62, Try.ntmps62
  go_wp2
  go_loopw [6] (fun iv wr => ∃ (k : Nat) (zr : List Nat), k ≤ n ∧ iv = .int .i64 k ∧ Hid (zr.length = n + n') ∧ Hid (Row wr w.heap.size zr) ∧ Hid (Ok zr) ∧
      Hid (wv zr 0 (k + n') = val (xs.take k) * val ys) ∧ Hid (∀ i, k + n' ≤ i → lim zr i = 0) ∧ Hid (Below w.heap.size w wr)) (fun iv _ => n - (intOf iv).toNat)
  case atStart => exact ⟨0, List.replicate (n + n') 0, by omega, rfl, by rw [Hid, List.length_replicate], Hrow.out, ok_zeros _, by rw [Hid, List.take_zero, val_nil, Nat.zero_mul, wv_zeros], fun i _ => lim_zeros _ _, Hb0.out⟩
  case round =>
    obtain ⟨k, zr, hk, rfl, Hlen, Hrw, Hok, Hval, Hrest, Hb⟩ := hrel
    obtain ⟨wo, rfl⟩ : ∃ wo : World, wo = wr := ⟨_, rfl⟩
    by_cases hkn : k < n
    · have hx := h.ok.lim k
      have i0 : (0 : Int) ≤ (k : Int) := by omega
      have i1 : (k : Int) < (n : Int) := by omega
      go_wp2
      go_loopw [7, 8, 9] (fun cv jv sv wq => ∃ (j cy : Nat) (zq : List Nat), j ≤ n' ∧ jv = .int .i64 j ∧ cv = .int .u64 cy ∧ cy < 4294967296 ∧ Hid (Row wq w.heap.size zq) ∧ Hid (Ok zq) ∧ Hid (Same zr zq k (k + j)) ∧
        Hid (wv zq k j + 4294967296 ^ j * cy = wv zr k j + val (ys.take j) * lim xs k) ∧ Hid (Below w.heap.size w wq)) (fun _ jv _ _ => n' - (intOf jv).toNat)
      case atStart => exact ⟨0, 0, zr, by omega, rfl, rfl, by omega, Hrw.out, Hok.out, Same.refl _ _ _, by rw [Hid, List.take_zero, val_nil, Nat.zero_mul, Nat.mul_zero], Hb.out⟩
      case round =>
        obtain ⟨j, cy, zq, hj, rfl, rfl, hcy, Hrq, Hokq, Hsame, Hvq, Hbq⟩ := hrel
        have lq : zq.length = n + n' := by rw [Hsame.out.1]; exact Hlen.out
        have Lq := Lib.hid lq
        clear lq
        by_cases hjn : j < n'
        · obtain ⟨ad, rfl, hadb, hc2⟩ := (h.below Hbq.out).cell hkn
          obtain ⟨ad', rfl, hadb', hc3⟩ := (h'.below Hbq.out).cell hjn
          have hlt : k + j < zq.length := by rw [Lq.out]; omega
          have hc1 := Hrq.out.cell hlt
          have hf1 := Hrq.out.free (k + j)
          have ht := Hokq.out.lim (k + j)
          have hy := h'.ok.lim j
          have R := Lib.hid (timesr_rel hlt Hrq Hokq Hsame Hvq Hbq _ rfl)
          have hbd := mul_bd hx hy hcy ht
          have b1 : ((lim xs k : Nat) : Int) * ((lim ys j : Nat) : Int) ≤ 18446744065119617025 := by have := hbd.1; rw [← Int.natCast_mul]; omega
          have b0 : 0 ≤ ((lim xs k : Nat) : Int) * ((lim ys j : Nat) : Int) := by rw [← Int.natCast_mul]; omega
          have hbd2 := hbd.2
          have i2 : (j : Int) < (n' : Int) := by omega
          have i3 : (0 : Int) ≤ (j : Int) := by omega
          have i4 : (k : Int) + (j : Int) < ((n + n' : Nat) : Int) := by omega
          have i5 : (0 : Int) ≤ (k : Int) + (j : Int) := by omega
          have i6 : ((k : Int) + (j : Int)).toNat = k + j := by omega
          clear hbd
          go_wp2_with fail
          go_quiet (fail)
          go_wp2
          rw [show Value.int .u32 ((↑(lim xs k) * ↑(lim ys j) + ↑(lim zq (k + j)) + ↑cy) % 4294967296) = Value.int .u32 (((lim xs k * lim ys j + lim zq (k + j) + cy) % 4294967296 : Nat) : Int) by go_num]
          exact ⟨⟨j + 1, (lim xs k * lim ys j + lim zq (k + j) + cy) / 4294967296, _, by omega, by go_num, by go_num, by omega, hid_drewN' R.out _⟩, by simp [intOf]; omega⟩
        · have E0 := Lib.hid (sl_val h' (k := j) (by omega))
          obtain rfl : j = n' := by omega
          have Hvq' : Hid (wv zq k j + 4294967296 ^ j * cy = wv zr k j + val ys * lim xs k) := by rw [← E0.out]; exact Hvq.out
          have i4 : (k : Int) + (j : Int) < ((n + j : Nat) : Int) := by omega
          have i5 : (0 : Int) ≤ (k : Int) + (j : Int) := by omega
          have i6 : ((k : Int) + (j : Int)).toNat = k + j := by omega
          have hlt : k + j < zq.length := by rw [Lq.out]; omega
          have hc1 := Hrq.out.cell hlt
          have hf1 := Hrq.out.free (k + j)
          have R1 := mulm_step (m := j) (by rw [Hlen.out]; omega) Hsame.out Hvq'.out Hval.out
          have R2 := mulm_rest (m := j) (cy := cy) Hsame.out Hrest.out
          have R3 := Hrq.out.set (k + j) cy
          have R5 := Ok.set Hokq.out (k + j) hcy
          have R6 : (zq.set (k + j) cy).length = n + j := by rw [List.length_set]; exact Lq.out
          have R := Lib.hid (And.intro R6 (And.intro R3 (And.intro R5 (And.intro R1 (And.intro R2 (Hbq.out.setCell (Nat.le_refl _) (p := ⟨w.heap.size, k + j, none⟩) (.int .u32 (cy : Nat))))))))
          clear R1 R2 R3 R5 R6
          go_wp2
          exact ⟨⟨k + 1, _, by omega, by go_num, R.out⟩, by simp [intOf]; omega⟩
    · obtain rfl : k = n := by omega
      have Hz := Lib.hid Hrw.out.lt
      have hsl := Hrw.out.sl (B := wo.heap.size) (n := k + n') (c := k + n') Hrw.out.lt 0 (by rw [Hlen.out]; omega) (Nat.le_refl _) (by omega) Hok.out
      rw [List.drop_zero, List.take_of_length_le (by rw [Hlen.out]; omega)] at hsl
      go_wp2_with fail
      refine (rtrim_any _ _ _ _ zr wo hsl).mono ?_
      rintro e w3 ⟨⟨j, hj, rfl, hnz, hv⟩, rfl⟩
      have HV := Lib.hid hv
      clear hv
      go_wp2
      go_ret
      exact ⟨_, _, _, _, rfl, hsl.to hj, hnz, by rw [HV.out, ← wv_all zr (show zr.length ≤ k + n' by rw [Hlen.out]; omega), Hval.out, List.take_of_length_le (by rw [Hl.out]; omega)], Hb.out⟩

end Go.Proofs.Ytalgcppogjpilaa
