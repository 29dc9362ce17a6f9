/-
  The walks of addProduct, mulMag and Mul.
-/
import Derived.Deep.RegionHeld3
import Derived.IntWalk
import Derived.Test.YtalgcppogjpilaaAddSub
namespace Go.Proofs.Ytalgcppogjpilaa
open Go.RowKit

theorem mul_bd {a f c t : Nat} (ha : a < 4294967296) (hf : f < 4294967296) (hc : c < 4294967296) (ht : t < 4294967296) : a * f ≤ 18446744065119617025 ∧ c + (a * f + t) < 18446744073709551616 := by
  have h := Nat.mul_le_mul (show a ≤ 4294967295 by omega) (show f ≤ 4294967295 by omega)
  omega

theorem mulp_rel {w wr : World} {zs zr ys : List Nat} {g off k cy f : Nat} (hlt : off + k < zr.length) (Hrow : Hid (Row wr g zr)) (Hok : Hid (Ok zr)) (Hsame : Hid (Same zs zr off (off + k)))
    (Hval : Hid (wv zr off k + 4294967296 ^ k * cy = wv zs off k + val (ys.take k) * f)) (Hgr : Hid (w.grownBy wr (some g))) (s : Nat) (hs : s = cy + (lim ys k * f + lim zr (off + k))) :
    Hid (Row (wr.setCell ⟨g, off + k, none⟩ (.int .u32 ((s % 4294967296 : Nat) : Int))) g (zr.set (off + k) (s % 4294967296))) ∧ Hid (Ok (zr.set (off + k) (s % 4294967296))) ∧
    Hid (Same zs (zr.set (off + k) (s % 4294967296)) off (off + (k + 1))) ∧
    Hid (wv (zr.set (off + k) (s % 4294967296)) off (k + 1) + 4294967296 ^ (k + 1) * (s / 4294967296) = wv zs off (k + 1) + val (ys.take (k + 1)) * f) ∧
    Hid (w.grownBy (wr.setCell ⟨g, off + k, none⟩ (.int .u32 ((s % 4294967296 : Nat) : Int))) (some g)) := by
  refine ⟨Hrow.out.set _ _, Hok.out.set _ (by omega), Hsame.out.snoc _, ?_, grown_set Hgr.out _ _⟩
  rw [Hid, wv_set_end hlt, wv_succ, val_take_succ, Nat.pow_succ, Nat.add_mul, Nat.mul_assoc (4294967296 ^ k) (lim ys k) f]
  have e := Hsame.out.2 (off + k) (.inr (Nat.le_refl _))
  exact add_step (b := lim ys k * f) (by rw [hs, e]; generalize lim ys k * f = p; omega) Hval.out

theorem hid_drewN {w : World} {g i : Nat} {v : Value} {zs' : List Nat} {P Q R : Prop} {wr : World}
    (h : Hid (Row (wr.setCell ⟨g, i, none⟩ v) g zs') ∧ P ∧ Q ∧ R ∧ Hid (w.grownBy (wr.setCell ⟨g, i, none⟩ v) (some g))) (n : Nat) :
    Hid (Row ((wr.drewN n).setCell ⟨g, i, none⟩ v) g zs') ∧ P ∧ Q ∧ R ∧ Hid (w.grownBy ((wr.drewN n).setCell ⟨g, i, none⟩ v) (some g)) :=
  ⟨h.1.out, h.2.1, h.2.2.1, h.2.2.2.1, grown_drewN h.2.2.2.2.out n⟩

set_option maxHeartbeats 1000000 in
theorem addProduct_any (g off n c B m d f : Nat) (A : Option Addr) (zs ys : List Nat) (w : World) (hr : Row w g zs) (hoff : off + n ≤ zs.length) (hz : Ok zs) (hl : off + n ≤ 35184372088832)
    (h : Sl w B A m d ys) (hB : B ≤ g) (hmn : m ≤ n) (hf : f < 4294967296) :
    Calls Try.prog 88 #[.slice (some ⟨g, off, none⟩) n c, .slice A m d, .int .u32 f] w fun e w' => ∃ zs' cy : _, e = .returned (.int .u32 (cy : Nat)) ∧ cy < 4294967296 ∧ Row w' g zs' ∧ Ok zs' ∧ Same zs zs' off (off + m) ∧
      wv zs' off m + 4294967296 ^ m * cy = wv zs off m + val ys * f ∧ w.grownBy w' (some g) := by
  go_enter Try.func88, Try.ntmps88
  go_wp2
  go_loopw [7, 11] (fun cv iv wr => ∃ (k cy : Nat) (zr : List Nat), k ≤ m ∧ iv = .int .i64 k ∧ cv = .int .u64 cy ∧ cy < 4294967296 ∧ Hid (Row wr g zr) ∧ Hid (Ok zr) ∧ Hid (Same zs zr off (off + k)) ∧
      Hid (wv zr off k + 4294967296 ^ k * cy = wv zs off k + val (ys.take k) * f) ∧ Hid (w.grownBy wr (some g))) (fun _ iv _ => m - (intOf iv).toNat)
  case atStart => exact ⟨0, 0, zs, by omega, rfl, rfl, by omega, hr, hz, Same.refl _ _ _, by rw [Hid, List.take_zero, val_nil, Nat.zero_mul, Nat.mul_zero], World.grownBy.refl w _⟩
  case round =>
    obtain ⟨k, cy, zr, hk, rfl, rfl, hcy, Hrow, Hok, Hsame, Hval, Hgr⟩ := hrel
    by_cases hkn : k < m
    · have hlt : off + k < zr.length := by have := Hsame.out.1; omega
      have hc1 := Hrow.out.cell hlt
      have hf1 := Hrow.out.free (off + k)
      have ht := Hok.out.lim (off + k)
      have hy := h.ok.lim k
      have R := Lib.hid (mulp_rel hlt Hrow Hok Hsame Hval Hgr _ rfl)
      have hbd := mul_bd hy hf hcy ht
      have b1 : ((lim ys k : Nat) : Int) * (f : Int) ≤ 18446744065119617025 := by have := hbd.1; rw [← Int.natCast_mul]; omega
      have b0 : 0 ≤ ((lim ys k : Nat) : Int) * (f : Int) := by rw [← Int.natCast_mul]; omega
      have hbd2 := hbd.2
      clear hbd
      obtain ⟨ad, rfl, hadb, hc2⟩ := (h.grown Hgr.out (by have := hr.lt; omega) hB).cell hkn
      go_wp2_with fail
      go_quiet (fail)
      go_wp2
      rw [show Value.int .u32 ((↑cy + (↑(lim ys k) * ↑f + ↑(lim zr (off + k)))) % 4294967296) = Value.int .u32 (((cy + (lim ys k * f + lim zr (off + k))) % 4294967296 : Nat) : Int) by go_num]
      exact ⟨⟨k + 1, (cy + (lim ys k * f + lim zr (off + k))) / 4294967296, _, by omega, by go_num, by go_num, by omega, hid_drewN R.out _⟩, by simp [intOf]; omega⟩
    · have E0 := Lib.hid (sl_val h (k := k) (by omega))
      obtain rfl : k = m := by omega
      go_wp2
      go_ret
      refine ⟨zr, cy, rfl, hcy, Hrow.out, Hok.out, Hsame.out, ?_, Hgr.out⟩
      rw [← E0.out]; exact Hval.out

/-- One row of the product more. -/
theorem mulm_step {zs zs' xs ys : List Nat} {k m cy : Nat} (hlen : k + m < zs.length) (hs : Same zs zs' k (k + m)) (hv : wv zs' k m + 4294967296 ^ m * cy = wv zs k m + val ys * lim xs k)
    (hp : wv zs 0 (k + m) = val (xs.take k) * val ys) : wv (zs'.set (k + m) cy) 0 (k + 1 + m) = val (xs.take (k + 1)) * val ys := by
  have l' : k + m < zs'.length := by rw [hs.1]; exact hlen
  have e1 := wv_add (zs'.set (k + m) cy) 0 k (m + 1)
  have e2 := wv_set_end (zs := zs') (off := k) (k := m) (v := cy) l'
  have e3 : wv (zs'.set (k + m) cy) 0 k = wv zs 0 k := by rw [wv_set_past (by omega)]; exact hs.wv_past (.inl (by omega))
  have e4 := wv_add zs 0 k m
  rw [Nat.zero_add] at e1 e4
  rw [show k + 1 + m = k + (m + 1) by omega, e1, e2, e3, hv, val_take_succ, Nat.add_mul, ← hp, e4]
  rw [Nat.mul_add, Nat.mul_comm (val ys) (lim xs k), Nat.mul_assoc]
  omega

theorem mulm_rest {zs zs' : List Nat} {k m cy : Nat} (hs : Same zs zs' k (k + m)) (h0 : ∀ i, k + m ≤ i → lim zs i = 0) : ∀ i, k + 1 + m ≤ i → lim (zs'.set (k + m) cy) i = 0 := by
  intro i hi
  rw [lim_set_ne (by omega), hs.2 i (.inr (by omega))]
  exact h0 i (by omega)

theorem wv_zeros (m off k : Nat) : wv (List.replicate m 0) off k = 0 := by
  induction k with
  | zero => rfl
  | succ k ih => rw [wv_succ, ih, lim_zeros]; simp
theorem cell_grown {w w' : World} {g : Nat} {p : Addr} (hg : w.grownBy w' (some g)) (hp : p.block < w.heap.size) (hne : p.block ≠ g) : w'.cell? p = w.cell? p :=
  World.cell?_of_block (hg.block p.block hp (fun e => hne (by injection e)))

set_option maxHeartbeats 1000000 in
theorem mulMag_any (A A' : Option Addr) (n c n' c' : Nat) (xs ys : List Nat) (w : World) (h : Sl w w.heap.size A n c xs) (h' : Sl w w.heap.size A' n' c' ys) (hn : n ≤ 1000000) (hn' : n' ≤ 1000000) :
    Calls Try.prog 61 #[.slice A n c, .slice A' n' c'] w (RetNum (val xs * val ys) w) := by
  have hmk := make_any ((n : Int) + (n' : Int)) (n + n') (by omega) (by omega)
  have Hrow := Lib.hid (Row.made w (n + n'))
  have Hb0 := Lib.hid ((Below.refl w.heap.size w).alloc (Nat.le_refl _) (.cells (zrow (n + n')) 51))
  have Hl := Lib.hid h.len
  go_enter Try.func61, Try.ntmps61
  go_wp2
  go_loopw [15] (fun iv wr => ∃ (k : Nat) (zr : List Nat), k ≤ n ∧ iv = .int .i64 k ∧ Hid (zr.length = n + n') ∧ Hid (Row wr w.heap.size zr) ∧ Hid (Ok zr) ∧
      Hid (wv zr 0 (k + n') = val (xs.take k) * val ys) ∧ Hid (∀ i, k + n' ≤ i → lim zr i = 0) ∧ Hid (Below w.heap.size w wr)) (fun iv _ => n - (intOf iv).toNat)
  case atStart => exact ⟨0, List.replicate (n + n') 0, by omega, rfl, by rw [Hid, List.length_replicate], Hrow.out, ok_zeros _, by rw [Hid, List.take_zero, val_nil, Nat.zero_mul, wv_zeros], fun i _ => lim_zeros _ _, Hb0.out⟩
  case round =>
    obtain ⟨k, zr, hk, rfl, Hlen, Hrw, Hok, Hval, Hrest, Hb⟩ := hrel
    by_cases hkn : k < n
    · have hx := h.ok.lim k
      obtain ⟨ad, rfl, hadb, hc2⟩ := (h.below Hb.out).cell hkn
      have hz := Hrw.out.lt
      have i0 : (0 : Int) ≤ (k : Int) := by omega
      have i1 : (k : Int) < (n : Int) := by omega
      have i2 : (k : Int) ≤ (k : Int) + (n' : Int) := by omega
      have i3 : (k : Int) + (n' : Int) ≤ ((n + n' : Nat) : Int) := by omega
      have i4 : (0 : Int) ≤ (k : Int) + (n' : Int) := by omega
      have i5 : (k : Int) + (n' : Int) < ((n + n' : Nat) : Int) := by omega
      have i6 : ((k : Int) + (n' : Int)).toNat = k + n' := by omega
      have hne : ¬ n + n' = k := by omega
      have hnad : ad.add k ≠ ⟨w.heap.size, k + n', none⟩ := fun e => by have := congrArg Addr.block e; rw [block_of_add] at this; simp only at this; omega
      have i7 : IntKind.i64.wrap ((k : Int) + (n' : Int)) = (k : Int) + (n' : Int) := IntWalk.i64_in _ (by omega)
      go_wp2_with fail
      go_region_held3 (fun w' => w'.cell? (ad.add k) = some (.int .u32 (lim xs k : Nat)))
        (first | exact hc2 | exact f3 | exact (World.cell?_setCell_other _ _ _ _ hnad).trans f3 | exact (World.cell?_setCell_other _ _ _ _ (Ne.symm hnad)).trans f3 | go_keep)
        (first
          | (go_at_call 88
             refine (addProduct_any w.heap.size k n' (n + n' - k) w.heap.size n' c' (lim xs k) A' zr ys wr.drew Hrw.out.drew (by rw [Hlen.out]; omega) Hok.out (by omega) (h'.below Hb.out).drew (Nat.le_refl _) (Nat.le_refl _) hx).mono ?_
             rintro e w1 ⟨zs', cy, rfl, hcy, hr1, hok1, hs1, hv1, hg1⟩
             have H1 := Lib.hid (And.intro hs1 (And.intro hv1 hok1))
             have l1 : k + n' < zs'.length := by rw [hs1.1, Hlen.out]; omega
             have f1 := hr1.cell l1
             have f2 := hr1.free (k + n')
             have f3 : w1.cell? (ad.add k) = some (.int .u32 (lim xs k : Nat)) := (cell_grown hg1 (p := ad.add k) (by rw [block_of_add]; exact Nat.lt_trans hadb hz) (by rw [block_of_add]; omega)).trans hc2
             clear hs1 hv1 hok1))
      have L1 := Hlen.out
      have R1 := mulm_step (m := n') (by omega) H1.out.1 H1.out.2.1 Hval.out
      have R2 := mulm_rest (m := n') (cy := cy) H1.out.1 Hrest.out
      have R3 := hr1.set (k + n') cy
      have R4 := below_grown Hb.out.drew hg1 (Nat.le_refl _) (by simp; omega)
      have R5 := Ok.set H1.out.2.2 (k + n') hcy
      have R6 : (zs'.set (k + n') cy).length = n + n' := by rw [List.length_set, H1.out.1.1]; exact Hlen.out
      have R := Lib.hid (And.intro R6 (And.intro R3 (And.intro R5 (And.intro R1 (And.intro R2 (R4.setCell (Nat.le_refl _) (p := ⟨w.heap.size, k + n', none⟩) (.int .u32 (cy : Nat))))))))
      clear R1 R2 R3 R4 R5 R6 L1 i3 i5 i6 i7
      go_wp2
      exact ⟨⟨k + 1, _, by omega, by go_num, R.out⟩, by simp [intOf]; omega⟩
    · obtain rfl : k = n := by omega
      have Hz := Lib.hid Hrw.out.lt
      have hsl := Hrw.out.sl (B := wr.heap.size) (n := k + n') (c := k + n') Hrw.out.lt 0 (by rw [Hlen.out]; omega) (Nat.le_refl _) (by omega) Hok.out
      rw [List.drop_zero, List.take_of_length_le (by rw [Hlen.out]; omega)] at hsl
      go_wp2_with fail
      refine (trim_any _ _ _ _ zr wr hsl).mono ?_
      rintro e w3 ⟨⟨j, hj, rfl, hnz, hv⟩, rfl⟩
      have HV := Lib.hid hv
      clear hv
      go_wp2
      go_ret
      exact ⟨_, _, _, _, rfl, hsl.to hj, hnz, by rw [HV.out, ← wv_all zr (show zr.length ≤ k + n' by rw [Hlen.out]; omega), Hval.out, List.take_of_length_le (by rw [Hl.out]; omega)], Hb.out⟩

end Go.Proofs.Ytalgcppogjpilaa
