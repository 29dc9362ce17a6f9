/-
  The walks of shiftLeft, and of the reference's left.
-/
import Derived.Test.YtalgcppogjpilaaBits
import Derived.Test.YtalgcppogjpilaaRef
import Derived.Test.YtalgcppogjpilaaMul
namespace Go.Proofs.Ytalgcppogjpilaa
open Go.RowKit

/-- An or of a low part and a multiple of 2^t is a sum. -/
theorem or_low (t a b : Nat) (ha : a < 2 ^ t) (hb : b % 2 ^ t = 0) (h1 : a < 4294967296) (h2 : b < 4294967296) : bits .or .u32 (a : Int) (b : Int) = ((a + b : Nat) : Int) ∧ bits .or .u32 (b : Int) (a : Int) = ((a + b : Nat) : Int) := by
  have e := Nat.two_pow_add_eq_or_of_lt (i := t) (b := a) ha (b / 2 ^ t)
  have d : 2 ^ t * (b / 2 ^ t) = b := by
    have := Nat.div_add_mod b (2 ^ t)
    omega
  rw [d] at e
  rw [u32_or_nat a b h1 h2, u32_or_nat b a h2 h1, ← e, Nat.or_comm a b, ← e, Nat.add_comm a b]
  exact ⟨rfl, rfl⟩
theorem low_mul {x t : Nat} (ht : t ≤ 32) : (x * 2 ^ t % 4294967296) % 2 ^ t = 0 := by
  rw [show (4294967296 : Nat) = 2 ^ 32 by decide, Nat.mod_mod_of_dvd _ (Nat.pow_dvd_pow 2 ht), Nat.mul_mod_left]
theorem high_mul {x t : Nat} (hx : x < 4294967296) : x * 2 ^ t / 4294967296 < 2 ^ t := by
  rw [Nat.div_lt_iff_lt_mul (by decide), Nat.mul_comm]
  exact Nat.mul_lt_mul_of_pos_left hx (Nat.pow_pos (by decide))
theorem shl_cast (x t : Nat) (hx : x < 4294967296) (ht : t < 32) : IntKind.u64.wrap ((x : Int) * 2 ^ t) = ((x * 2 ^ t : Nat) : Int) := by
  have h2 : 2 ^ t ≤ 2 ^ 31 := Nat.pow_le_pow_right (by decide) (by omega)
  have h3 : x * 2 ^ t ≤ 4294967295 * 2 ^ 31 := Nat.mul_le_mul (by omega) h2
  have h4 : ((x : Int) * 2 ^ t) = ((x * 2 ^ t : Nat) : Int) := by rw [Int.natCast_mul, Int.natCast_pow]; rfl
  rw [IntKind.wrap_u64, h4]
  omega

/-- The digits of a shift to the left, as they are written from the top: what stands at place l + q when all but the lowest J limbs have been shifted. -/
def shlAt (xs : List Nat) (t J q : Nat) : Nat :=
  if q < J then lim xs q else lim xs q * 2 ^ t % 4294967296 + if J < q then lim xs (q - 1) * 2 ^ t / 4294967296 else 0

theorem shl_val {xs zr : List Nat} {l n t : Nat} (hlen : xs.length = n) (h : ∀ q, q ≤ n → lim zr (l + q) = shlAt xs t 0 q) : wv zr l (n + 1) = val xs * 2 ^ t := by
  have key : ∀ k, k ≤ n + 1 → 0 < k → wv zr l k + 4294967296 ^ k * (lim xs (k - 1) * 2 ^ t / 4294967296) = val (xs.take k) * 2 ^ t := by
    intro k
    induction k with
    | zero => intro _ h0; omega
    | succ k ih =>
      intro hk _
      rw [wv_succ, h k (by omega), val_take_succ, Nat.add_mul, Nat.add_sub_cancel, shlAt, if_neg (by omega), Nat.pow_succ]
      have dm := Nat.div_add_mod (lim xs k * 2 ^ t) 4294967296
      rcases k with _ | k
      · rw [if_neg (by omega)]
        simp only [wv_zero, List.take_zero, val_nil, Nat.zero_mul, Nat.pow_zero, Nat.one_mul, Nat.add_zero, Nat.zero_add]
        omega
      · have e := ih (by omega) (by omega)
        rw [Nat.add_sub_cancel] at e
        rw [if_pos (by omega), Nat.add_sub_cancel, ← e, Nat.mul_add]
        generalize 4294967296 ^ (k + 1) = P
        rw [show P * (lim xs (k + 1)) * 2 ^ t = P * (lim xs (k + 1) * 2 ^ t) by rw [Nat.mul_assoc], ← dm, Nat.mul_add P, ← Nat.mul_assoc P 4294967296]
        rw [dm]
        omega
  have e := key (n + 1) (Nat.le_refl _) (by omega)
  rw [Nat.add_sub_cancel, lim_past (xs := xs) (k := n) (by omega), List.take_of_length_le (by omega)] at e
  simpa using e

theorem shl_end {xs zr : List Nat} {s l n t : Nat} (hs : s = 32 * l + t) (hz : zr.length = l + n + 1) (h0 : ∀ p, p < l → lim zr p = 0) (h : wv zr l (n + 1) = val xs * 2 ^ t) : val zr = val xs * 2 ^ s := by
  rw [← wv_all zr (k := l + (n + 1)) (by omega), wv_add zr 0 l (n + 1), Nat.zero_add, h]
  have e0 : wv zr 0 l = 0 := by
    have := wv_congr (zs := List.replicate l 0) (zs' := zr) (off := 0) (off' := 0) (k := l) (fun i hi => by rw [Nat.zero_add, h0 i hi, lim_zeros])
    rw [this, wv_zeros]
  rw [e0, Nat.zero_add, hs, Nat.pow_add, Nat.pow_mul, show (2 : Nat) ^ 32 = 4294967296 by decide]
  rw [Nat.mul_left_comm, Nat.mul_comm (4294967296 ^ l)]

theorem over_lim0 {n l : Nat} {xs : List Nat} (hl : xs.length = n) (i : Nat) : lim (over (List.replicate (n + l + 1) 0) l xs) i = if l ≤ i then lim xs (i - l) else 0 := by
  rw [lim_over (by rw [List.length_replicate]; omega), lim_zeros]
  by_cases h1 : l ≤ i
  · rw [if_pos h1]
    by_cases h2 : i < l + xs.length
    · rw [if_pos ⟨h1, h2⟩]
    · rw [if_neg (by omega), lim_past (by omega)]
  · rw [if_neg h1, if_neg (by omega)]

/-- One limb more. -/
theorem shl_rel {w wr : World} {zr xs : List Nat} {g l n t J p : Nat} (hp : p = l + J) (hx : Ok xs) (ht : t < 32) (hJ : J < n) (Hlen : Hid (zr.length = l + n + 1)) (Hrw : Hid (Row wr g zr)) (Hok : Hid (Ok zr))
    (Hlow : Hid (∀ p, p < l → lim zr p = 0)) (Hd : Hid (∀ q, q ≤ n → lim zr (l + q) = shlAt xs t (J + 1) q)) (Hb : Hid (Below g w wr)) (v u : Nat) (hv : v = lim xs J * 2 ^ t % 4294967296) (hu : u = lim xs (J + 1) * 2 ^ t % 4294967296 + lim xs J * 2 ^ t / 4294967296) :
    Hid (((zr.set p v).set (p + 1) u).length = l + n + 1) ∧ Hid (Row ((wr.setCell ⟨g, p, none⟩ (.int .u32 (v : Int))).setCell ⟨g, p + 1, none⟩ (.int .u32 (u : Int))) g ((zr.set p v).set (p + 1) u)) ∧
    Hid (Ok ((zr.set p v).set (p + 1) u)) ∧ Hid (∀ i, i < l → lim ((zr.set p v).set (p + 1) u) i = 0) ∧ Hid (∀ q, q ≤ n → lim ((zr.set p v).set (p + 1) u) (l + q) = shlAt xs t J q) ∧
    Hid (Below g w ((wr.setCell ⟨g, p, none⟩ (.int .u32 (v : Int))).setCell ⟨g, p + 1, none⟩ (.int .u32 (u : Int)))) := by
  subst hp
  have hxJ := hx.lim J
  have hv' : v < 4294967296 := by rw [hv]; exact Nat.mod_lt _ (by decide)
  have hu' : u < 4294967296 := by
    have a := high_mul (t := t) hxJ
    have b := low_mul (x := lim xs (J + 1)) (t := t) (by omega)
    have c : lim xs (J + 1) * 2 ^ t % 4294967296 < 4294967296 := Nat.mod_lt _ (by decide)
    have e : (4294967296 : Nat) = 2 ^ t * 2 ^ (32 - t) := by rw [← Nat.pow_add, show t + (32 - t) = 32 by omega]
    generalize lim xs (J + 1) * 2 ^ t % 4294967296 = y at *
    generalize lim xs J * 2 ^ t / 4294967296 = z at *
    have d := Nat.div_add_mod y (2 ^ t)
    rw [b, Nat.add_zero] at d
    have f : y / 2 ^ t < 2 ^ (32 - t) := by
      rw [Nat.div_lt_iff_lt_mul (Nat.pow_pos (by decide)), Nat.mul_comm, ← e]; exact c
    have g1 : 2 ^ t * (y / 2 ^ t + 1) ≤ 2 ^ t * 2 ^ (32 - t) := Nat.mul_le_mul_left _ f
    rw [Nat.mul_add, d, ← e] at g1
    omega
  refine ⟨by rw [Hid, List.length_set, List.length_set, Hlen.out], (Hrw.out.set _ _).set _ _, (Hok.out.set _ hv').set _ hu', fun i hi => ?_, fun q hq => ?_, (Hb.out.setCell (Nat.le_refl _) _).setCell (Nat.le_refl _) _⟩
  · rw [lim_set_ne (by omega), lim_set_ne (by omega)]; exact Hlow.out i hi
  · by_cases e1 : q = J + 1
    · subst e1
      rw [← Nat.add_assoc, lim_set_eq (by rw [List.length_set, Hlen.out]; omega), hu, shlAt, if_neg (by omega), if_pos (by omega), Nat.add_sub_cancel]
    · rw [lim_set_ne (by omega)]
      by_cases e2 : q = J
      · subst e2
        rw [lim_set_eq (by rw [Hlen.out]; omega), hv, shlAt, if_neg (by omega), if_neg (by omega), Nat.add_zero]
      · rw [lim_set_ne (by omega), Hd.out q hq, shlAt, shlAt]
        by_cases e3 : q < J
        · rw [if_pos (by omega), if_pos e3]
        · rw [if_neg (by omega), if_neg e3, if_pos (by omega), if_pos (by omega)]

set_option maxHeartbeats 2000000 in
theorem shiftLeft_any (A : Option Addr) (n c s l t : Nat) (xs : List Nat) (w : World) (h : Sl w w.heap.size A n c xs) (hn : n ≤ 1000000) (hs : s ≤ 1000000) (hl : (s : Int) / 32 = (l : Int)) (ht : (s : Int) % 32 = (t : Int)) :
    Calls Try.prog 77 #[.slice A n c, .int .i64 (s : Int)] w (RetNum (val xs * 2 ^ s) w) := by
  have hcap := h.cap
  have hcr := h.capr
  have Hst := Lib.hid (show s = 32 * l + t ∧ t < 32 by omega)
  have hlb : l ≤ 1000000 := by omega
  have hmk := make_any ((n : Int) + (l : Int) + 1) (n + l + 1) (by omega) (by omega)
  have Hrow := Lib.hid (Row.made w (n + l + 1))
  have Hl := Lib.hid h.len
  have Hb0 := Lib.hid ((Below.refl w.heap.size w).alloc (Nat.le_refl _) (.cells (zrow (n + l + 1)) 51))
  have htk : xs.take (n + 1) = xs := List.take_of_length_le (by rw [Hl.out]; omega)
  have E := Lib.hid htk
  clear htk
  have i1 : (l : Int) ≤ ((n + l + 1 : Nat) : Int) := by omega
  have i0 : (0 : Int) ≤ (l : Int) := by omega
  have hne : ¬ n + l + 1 = l := by omega
  go_enter Try.func77, Try.ntmps77
  go_wp2_with (with_reducible refine copy_us rfl (.tmp 23) (.tmp 24) rfl w.heap.size l (n + l + 1 - l) (n + l + 1 - l) n c w.heap.size A xs _ rfl rfl Hrow.out (h.alloc (Nat.le_refl _) _) (by rw [List.length_replicate]; omega) ?_; intro w1 hw hb)
  rw [show n + l + 1 - l = n + 1 by omega, E.out] at hw
  have Hr1 := Lib.hid hw
  have Hb1 := Lib.hid (Hb0.out.trans hb)
  clear hw hb i0 i1
  have hmod : (s : Int) % 32 = (t : Int) := ht
  go_wp2
  go_loopw [28] (fun iv wr => ∃ (k : Nat) (zr : List Nat), k ≤ n ∧ iv = .int .i64 k ∧ Hid (zr.length = l + n + 1) ∧ Hid (Row wr w.heap.size zr) ∧ Hid (Ok zr) ∧ Hid (∀ p, p < l → lim zr p = 0) ∧
      Hid (∀ q, q ≤ n → lim zr (l + q) = shlAt xs t (n - k) q) ∧ Hid (Below w.heap.size w wr)) (fun iv _ => n - (intOf iv).toNat)
  case atStart =>
    refine ⟨0, _, by omega, rfl, ?_, Hr1.out, (ok_zeros _).over h.ok _, fun p hp => ?_, fun q hq => ?_, Hb1.out⟩
    · rw [Hid, over_length (by rw [List.length_replicate, Hl.out]; omega), List.length_replicate]; omega
    · rw [over_lim0 Hl.out, if_neg (by omega)]
    · rw [over_lim0 Hl.out, if_pos (by omega), show l + q - l = q by omega, shlAt, Nat.sub_zero]
      by_cases e : q < n
      · rw [if_pos e]
      · rw [if_neg e, if_neg (by omega), lim_past (by rw [Hl.out]; omega)]; simp
  case round =>
    obtain ⟨k, zr, hk, rfl, Hlen, Hrw, Hok, Hlow, Hd, Hb⟩ := hrel
    by_cases hkn : k < n
    · obtain ⟨J, hJ⟩ : ∃ J, n = k + (J + 1) := ⟨n - k - 1, by omega⟩
      obtain ⟨p, hp⟩ : ∃ p, p = l + J := ⟨_, rfl⟩
      have Hd' : Hid (∀ q, q ≤ n → lim zr (l + q) = shlAt xs t (J + 1) q) := by rw [show J + 1 = n - k by omega]; exact Hd
      have hxJ := h.ok.lim J
      obtain ⟨ad, rfl, hadb, hc1⟩ := (h.below Hb.out).cell (k := J) (by omega)
      have hlp : p + 1 < zr.length := by rw [Hlen.out]; omega
      have hc2 := Hrw.out.cell (i := p) (by omega)
      have hf2 := Hrw.out.free p
      have hc3 := Hrw.out.cell hlp
      have hf3 := Hrw.out.free (p + 1)
      have j1 : (n : Int) - 1 - (k : Int) = (J : Int) := by omega
      have j2 : (l : Int) + (n : Int) - 1 - (k : Int) = (p : Int) := by omega
      have j3 : (J : Int) < (n : Int) := by omega
      have j4 : (p : Int) < ((n + l + 1 : Nat) : Int) := by omega
      have j5 : (p : Int) + 1 < ((n + l + 1 : Nat) : Int) := by omega
      have j6 : (k : Int) < (n : Int) := by omega
      have j7 := shl_cast (lim xs J) t hxJ Hst.out.2
      have HJ := Lib.hid (And.intro hJ hp)
      clear hJ hp
      go_wp2
      have e0 : lim zr (p + 1) = lim xs (J + 1) * 2 ^ t % 4294967296 := by
        have := Hd'.out (J + 1) (by have := HJ.out.1; omega)
        rw [show l + (J + 1) = p + 1 by have := HJ.out.2; omega, shlAt, if_neg (by omega), if_neg (by omega), Nat.add_zero] at this
        exact this
      have c1 : (↑(lim xs J) * 2 ^ t % 4294967296 : Int) = ((lim xs J * 2 ^ t % 4294967296 : Nat) : Int) := by
        rw [Int.natCast_emod, Int.natCast_mul, Int.natCast_pow]; rfl
      have hhi := high_mul (t := t) hxJ
      have hpw : 2 ^ t ≤ 2 ^ 31 := Nat.pow_le_pow_right (by decide) (by have := Hst.out.2; omega)
      have c2 : (↑(lim xs J) * 2 ^ t / 4294967296 % 4294967296 : Int) = ((lim xs J * 2 ^ t / 4294967296 : Nat) : Int) := by
        rw [show (↑(lim xs J) * 2 ^ t : Int) = ((lim xs J * 2 ^ t : Nat) : Int) by rw [Int.natCast_mul, Int.natCast_pow]; rfl]
        omega
      have c3 := (or_low t (lim xs J * 2 ^ t / 4294967296) (lim xs (J + 1) * 2 ^ t % 4294967296) hhi (low_mul (by have := Hst.out.2; omega)) (by omega) (Nat.mod_lt _ (by decide))).2
      rw [c1, c2, e0, c3, Nat.add_comm (lim xs J * 2 ^ t / 4294967296)]
      have R := shl_rel HJ.out.2 h.ok Hst.out.2 (show J < n by have := HJ.out.1; omega) Hlen Hrw Hok Hlow Hd' Hb _ _ rfl rfl
      exact ⟨⟨k + 1, _, by omega, by go_num, R.1, R.2.1, R.2.2.1, R.2.2.2.1, (by rw [show n - (k + 1) = J by have := HJ.out.1; omega]; exact R.2.2.2.2.1), R.2.2.2.2.2⟩, by simp [intOf]; omega⟩
    · obtain rfl : k = n := by omega
      have hz := Hrw.out.lt
      have hsz := Hrw.out.sl (B := wr.heap.size) (n := k + l + 1) (c := k + l + 1) hz 0 (by rw [Hlen.out]; omega) (Nat.le_refl _) (by omega) Hok.out
      rw [List.drop_zero, List.take_of_length_le (by rw [Hlen.out]; omega)] at hsz
      have Hd0 : Hid (∀ q, q ≤ k → lim zr (l + q) = shlAt xs t 0 q) := by have := Hd; rwa [Nat.sub_self] at this
      have He := Lib.hid (shl_end Hst.out.1 Hlen.out Hlow.out (shl_val Hl.out Hd0.out))
      go_wp2_with fail
      refine (trim_any _ _ _ _ zr wr hsz).mono ?_
      rintro e w3 ⟨⟨j, hj, rfl, hnz, hv⟩, rfl⟩
      have HV := Lib.hid hv
      clear hv
      go_wp2
      go_ret
      exact ⟨_, _, _, _, rfl, hsz.to hj, hnz, by rw [HV.out]; exact He.out, Hb.out⟩

end Go.Proofs.Ytalgcppogjpilaa
