/-
  The walk of the reference's left.
-/
import Derived.Test.YtalgcppogjpilaaShl
namespace Go.Proofs.Ytalgcppogjpilaa
open Go.RowKit

/-- One limb of a shift to the left, from below. -/
theorem left_rel {w wr : World} {zr xs : List Nat} {g l n t k p : Nat} (hp : p = l + k) (hx : Ok xs) (ht : t < 32) (hk : k < n) (Hlen : Hid (zr.length = l + n + 1)) (Hrw : Hid (Row wr g zr)) (Hok : Hid (Ok zr))
    (Hlow : Hid (∀ i, i < l → lim zr i = 0)) (Hval : Hid (wv zr l (k + 1) = val (xs.take k) * 2 ^ t)) (Htop : Hid (lim zr p < 2 ^ t)) (Hb : Hid (Below g w wr)) (v u : Nat) (hv : v = lim zr p + lim xs k * 2 ^ t % 4294967296) (hu : u = lim xs k * 2 ^ t / 4294967296) :
    Hid (((zr.set p v).set (p + 1) u).length = l + n + 1) ∧ Hid (Row ((wr.setCell ⟨g, p, none⟩ (.int .u32 (v : Int))).setCell ⟨g, p + 1, none⟩ (.int .u32 (u : Int))) g ((zr.set p v).set (p + 1) u)) ∧
    Hid (Ok ((zr.set p v).set (p + 1) u)) ∧ Hid (∀ i, i < l → lim ((zr.set p v).set (p + 1) u) i = 0) ∧ Hid (wv ((zr.set p v).set (p + 1) u) l (k + 1 + 1) = val (xs.take (k + 1)) * 2 ^ t) ∧ Hid (lim ((zr.set p v).set (p + 1) u) (p + 1) < 2 ^ t) ∧
    Hid (Below g w ((wr.setCell ⟨g, p, none⟩ (.int .u32 (v : Int))).setCell ⟨g, p + 1, none⟩ (.int .u32 (u : Int)))) := by
  subst hp
  have hxk := hx.lim k
  have hu2 : u < 2 ^ t := by rw [hu]; exact high_mul hxk
  have hpt : 2 ^ t ≤ 2 ^ 31 := Nat.pow_le_pow_right (by decide) (by omega)
  have hu' : u < 4294967296 := by omega
  have hv' : v < 4294967296 := by
    have b := low_mul (x := lim xs k) (t := t) (by omega)
    have c : lim xs k * 2 ^ t % 4294967296 < 4294967296 := Nat.mod_lt _ (by decide)
    have e : (4294967296 : Nat) = 2 ^ t * 2 ^ (32 - t) := by rw [← Nat.pow_add, show t + (32 - t) = 32 by omega]
    have a := Htop.out
    rw [hv]
    generalize lim xs k * 2 ^ t % 4294967296 = y at *
    generalize lim zr (l + k) = z at *
    have d := Nat.div_add_mod y (2 ^ t)
    rw [b, Nat.add_zero] at d
    have f : y / 2 ^ t < 2 ^ (32 - t) := by
      rw [Nat.div_lt_iff_lt_mul (Nat.pow_pos (by decide)), Nat.mul_comm, ← e]; exact c
    have g1 : 2 ^ t * (y / 2 ^ t + 1) ≤ 2 ^ t * 2 ^ (32 - t) := Nat.mul_le_mul_left _ f
    rw [Nat.mul_add, d, ← e] at g1
    omega
  have l1 : l + k < zr.length := by rw [Hlen.out]; omega
  have l2 : l + k + 1 < (zr.set (l + k) v).length := by rw [List.length_set, Hlen.out]; omega
  refine ⟨by rw [Hid, List.length_set, List.length_set, Hlen.out], (Hrw.out.set _ _).set _ _, (Hok.out.set _ hv').set _ hu', fun i hi => ?_, ?_, ?_, (Hb.out.setCell (Nat.le_refl _) _).setCell (Nat.le_refl _) _⟩
  · rw [lim_set_ne (by omega), lim_set_ne (by omega)]; exact Hlow.out i hi
  · have e1 := wv_set_end (zs := zr.set (l + k) v) (off := l) (k := k + 1) (v := u) (by rw [← Nat.add_assoc]; exact l2)
    have e2 := wv_set_end (zs := zr) (off := l) (k := k) (v := v) l1
    have e3 := wv_succ zr l k
    rw [Nat.add_assoc l k 1]
    rw [Hid, e1, e2, val_take_succ, Nat.add_mul, ← Hval.out, e3, hv, hu, Nat.pow_succ]
    have dm := Nat.div_add_mod (lim xs k * 2 ^ t) 4294967296
    generalize 4294967296 ^ k = P
    rw [show P * lim xs k * 2 ^ t = P * (lim xs k * 2 ^ t) by rw [Nat.mul_assoc], ← dm]
    rw [dm]
    generalize lim xs k * 2 ^ t % 4294967296 = y at *
    generalize lim xs k * 2 ^ t / 4294967296 = z at *
    rw [← dm, Nat.mul_add, Nat.mul_add, ← Nat.mul_assoc P 4294967296 z]
    omega
  · rw [Hid, lim_set_eq l2]; exact hu2

set_option maxHeartbeats 2000000 in
theorem rleft_any (A : Option Addr) (n c s l t : Nat) (xs : List Nat) (w : World) (h : Sl w w.heap.size A n c xs) (hn : n ≤ 1000000) (hs : s ≤ 1000000) (hl : (s : Int) / 32 = (l : Int)) (ht : (s : Int) % 32 = (t : Int)) :
    Calls Try.prog 71 #[.slice A n c, .int .i64 (s : Int)] w (RetNum (val xs * 2 ^ s) w) := by
  have hcap := h.cap
  have hcr := h.capr
  have Hst := Lib.hid (show s = 32 * l + t ∧ t < 32 by omega)
  have hlb : l ≤ 1000000 := by omega
  have hmk := make_any ((n : Int) + (l : Int) + 1) (n + l + 1) (by omega) (by omega)
  have Hrow := Lib.hid (Row.made w (n + l + 1))
  have Hl := Lib.hid h.len
  have Hb0 := Lib.hid ((Below.refl w.heap.size w).alloc (Nat.le_refl _) (.cells (zrow (n + l + 1)) 51))
  have hmod : (s : Int) % 32 = (t : Int) := ht
  go_enter Try.func71, Try.ntmps71
  go_wp2
  go_loopw [6, 7] (fun iv sv wr => ∃ (k : Nat) (zr : List Nat), k ≤ n ∧ iv = .int .i64 k ∧ Hid (zr.length = l + n + 1) ∧ Hid (Row wr w.heap.size zr) ∧ Hid (Ok zr) ∧ Hid (∀ i, i < l → lim zr i = 0) ∧
      Hid (wv zr l (k + 1) = val (xs.take k) * 2 ^ t) ∧ Hid (lim zr (l + k) < 2 ^ t) ∧ Hid (Below w.heap.size w wr)) (fun iv _ _ => n - (intOf iv).toNat)
  case atStart =>
    refine ⟨0, _, by omega, rfl, ?_, Hrow.out, ok_zeros _, fun i _ => lim_zeros _ _, ?_, ?_, Hb0.out⟩
    · rw [Hid, List.length_replicate]; omega
    · rw [Hid, wv_zeros, List.take_zero, val_nil, Nat.zero_mul]
    · rw [Hid, lim_zeros]; exact Nat.pow_pos (by decide)
  case round =>
    obtain ⟨k, zr, hk, rfl, Hlen, Hrw, Hok, Hlow, Hval, Htop, Hb⟩ := hrel
    by_cases hkn : k < n
    · obtain ⟨p, hp⟩ : ∃ p, p = l + k := ⟨_, rfl⟩
      rw [← hp] at Htop
      have hxk := h.ok.lim k
      obtain ⟨ad, rfl, hadb, hc1⟩ := (h.below Hb.out).cell hkn
      have hlp : p + 1 < zr.length := by rw [Hlen.out]; omega
      have hc2 := Hrw.out.cell (i := p) (by omega)
      have hf2 := Hrw.out.free p
      have hc3 := Hrw.out.cell hlp
      have hf3 := Hrw.out.free (p + 1)
      have j1 : (k : Int) + (l : Int) = (p : Int) := by omega
      have j4 : (p : Int) < ((n + l + 1 : Nat) : Int) := by omega
      have j5 : (p : Int) + 1 < ((n + l + 1 : Nat) : Int) := by omega
      have j6 : (k : Int) < (n : Int) := by omega
      have j7 := shl_cast (lim xs k) t hxk Hst.out.2
      have HJ := Lib.hid hp
      clear hp
      go_wp2
      have cx : (↑(lim xs k) * 2 ^ t : Int) = ((lim xs k * 2 ^ t : Nat) : Int) := by rw [Int.natCast_mul, Int.natCast_pow]; rfl
      have hhi := high_mul (t := t) hxk
      have hpw : 2 ^ t ≤ 2 ^ 31 := Nat.pow_le_pow_right (by decide) (by have := Hst.out.2; omega)
      have c3 := (or_low t (lim zr p) (lim xs k * 2 ^ t % 4294967296) Htop.out (low_mul (by have := Hst.out.2; omega)) (by have := Htop.out; omega) (Nat.mod_lt _ (by decide))).1
      have c4 : IntKind.u64.wrap ((lim xs k * 2 ^ t / 4294967296 : Nat) : Int) % 4294967296 = ((lim xs k * 2 ^ t / 4294967296 : Nat) : Int) := wrap_small (by omega)
      have c1 : ((lim xs k * 2 ^ t : Nat) : Int) % 4294967296 = ((lim xs k * 2 ^ t % 4294967296 : Nat) : Int) := by omega
      have c2 : ((lim xs k * 2 ^ t : Nat) : Int).tdiv 4294967296 = ((lim xs k * 2 ^ t / 4294967296 : Nat) : Int) := tdiv_cast _ 4294967296
      rw [cx, c2, c1, c3, c4]
      have R := left_rel HJ.out h.ok Hst.out.2 hkn Hlen Hrw Hok Hlow Hval Htop Hb _ _ rfl rfl
      exact ⟨⟨k + 1, _, by omega, by go_num, R.1, R.2.1, R.2.2.1, R.2.2.2.1, R.2.2.2.2.1, (by rw [show l + (k + 1) = p + 1 by have := HJ.out; omega]; exact R.2.2.2.2.2.1), R.2.2.2.2.2.2⟩, by simp [intOf]; omega⟩
    · obtain rfl : k = n := by omega
      have hz := Hrw.out.lt
      have hsz := Hrw.out.sl (B := wr.heap.size) (n := k + l + 1) (c := k + l + 1) hz 0 (by rw [Hlen.out]; omega) (Nat.le_refl _) (by omega) Hok.out
      rw [List.drop_zero, List.take_of_length_le (by rw [Hlen.out]; omega)] at hsz
      have He := Lib.hid (shl_end Hst.out.1 Hlen.out Hlow.out (by have := Hval.out; rwa [List.take_of_length_le (by rw [Hl.out]; omega)] at this))
      go_wp2_with fail
      refine (rtrim_any _ _ _ _ zr wr hsz).mono ?_
      rintro e w3 ⟨⟨j, hj, rfl, hnz, hv⟩, rfl⟩
      have HV := Lib.hid hv
      clear hv
      go_wp2
      go_ret
      exact ⟨_, _, _, _, rfl, hsz.to hj, hnz, by rw [HV.out]; exact He.out, Hb.out⟩

end Go.Proofs.Ytalgcppogjpilaa
