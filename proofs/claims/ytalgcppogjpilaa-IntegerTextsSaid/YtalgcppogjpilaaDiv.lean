/-
  The walks of wordOf and divLimb.
-/
import Derived.Test.YtalgcppogjpilaaOf
namespace Go.Proofs.Ytalgcppogjpilaa
open Go.RowKit

/-- a limb below r * 2^32: an or is a sum -/
theorem or_shift (r t : Nat) (ht : t < 4294967296) (hr : r < 4294967296) : bits .or .u64 ((r : Int) * 4294967296) (t : Int) = ((4294967296 * r + t : Nat) : Int) := by
  have e := Nat.two_pow_add_eq_or_of_lt (i := 32) (b := t) (by omega) r
  have h := u64_or_nat (4294967296 * r) t (by omega) (by omega)
  rw [show ((r : Int) * 4294967296) = ((4294967296 * r : Nat) : Int) by omega, h]
  rw [show (2 : Nat) ^ 32 = 4294967296 by decide] at e
  rw [e]
theorem or_shift' (v t : Nat) (hv : v < 4294967296) (ht : t < 4294967296) : bits .or .u64 (v : Int) ((t : Int) * 4294967296) = ((v + 4294967296 * t : Nat) : Int) := by
  have e := Nat.two_pow_add_eq_or_of_lt (i := 32) (b := v) (by omega) t
  have h := u64_or_nat v (4294967296 * t) (by omega) (by omega)
  rw [show ((t : Int) * 4294967296) = ((4294967296 * t : Nat) : Int) by omega, h]
  rw [show (2 : Nat) ^ 32 = 4294967296 by decide] at e
  rw [Nat.or_comm, ← e, Nat.add_comm]
theorem or_zero (t : Nat) (ht : t < 4294967296) : bits .or .u64 ((0 : Nat) : Int) (t : Int) = (t : Int) := by
  rw [u64_or_nat 0 t (by omega) (by omega), Nat.zero_or]
/-- The word of k limbs, one limb on (k at most 1). -/
theorem word_step (k v t : Nat) (hk : k ≤ 1) (hv : v < 4294967296 ^ k) (ht : t < 4294967296) : bits .or .u64 (v : Int) (IntKind.u64.wrap ((t : Int) * 2 ^ (32 * k))) = ((v + 4294967296 ^ k * t : Nat) : Int) := by
  rw [IntKind.wrap_u64]
  rcases k with _ | k
  · obtain rfl : v = 0 := by simpa using hv
    rw [show ((t : Int) * 2 ^ (32 * 0)) % 18446744073709551616 = (t : Int) by simp; omega, or_zero t ht]; simp
  · obtain rfl : k = 0 := by omega
    rw [show ((t : Int) * 2 ^ (32 * (0 + 1))) % 18446744073709551616 = (t : Int) * 4294967296 by simp; omega, or_shift' v t (by simpa using hv) ht]

set_option maxHeartbeats 1000000 in
theorem wordOf_any (A : Option Addr) (n c B : Nat) (xs : List Nat) (w : World) (h : Sl w B A n c xs) (hn : n ≤ 2) :
    Calls Try.prog 51 #[.slice A n c] w fun e w' => e = .returned (.int .u64 (val xs : Nat)) ∧ w = w' := by
  have hcap := h.cap
  have hreach := h.reach
  have hcr := h.capr
  have Hv := Lib.hid (sl_val h (k := n) (Nat.le_refl _))
  go_enter Try.func51, Try.ntmps51
  go_wp2
  go_loop [3, 7] (fun v i => ∃ k : Nat, k ≤ n ∧ i = .int .i64 k ∧ v = .int .u64 (val (xs.take k) : Nat)) (fun _ i => n - (intOf i).toNat)
  case atStart => exact ⟨0, by omega, rfl, rfl⟩
  case round =>
    obtain ⟨k, hk, rfl, rfl⟩ := hrel
    by_cases hkn : k < n
    · have hx := h.ok.lim k
      have hs := val_take_succ xs k
      have Hs := Lib.hid hs
      clear hs
      obtain ⟨ad, rfl, _, hc1⟩ := h.cell hkn
      have hv := Lib.hid (val_take_succ xs k)
      have hk1 : k ≤ 1 := by omega
      obtain ⟨v, Hvk⟩ : ∃ v, Hid (val (xs.take k) = v) := ⟨_, rfl⟩
      have Hlt : v < 4294967296 ^ k := by
        have := val_lt (h.ok.take k)
        rw [List.length_take, h.len, Nat.min_eq_left hk, Hvk.out] at this
        exact this
      have HLT := Lib.hid Hlt
      clear Hlt
      rw [Hvk.out]
      go_wp2
      rw [word_step k v _ hk1 HLT.out hx]
      exact ⟨⟨k + 1, by omega, by go_num, by rw [hv.out, Hvk.out]⟩, by simp [intOf]; omega⟩
    · obtain rfl : k = n := by omega
      rw [Hv.out]
      go_wp2
      go_ret
      exact ⟨rfl, rfl⟩

theorem tdiv_cast (a b : Nat) : ((a : Int).tdiv (b : Int)) = ((a / b : Nat) : Int) := (Int.ofNat_tdiv a b).symm
theorem tmod_cast (a b : Nat) : ((a : Int).tmod (b : Int)) = ((a % b : Nat) : Int) := (Int.ofNat_tmod a b).symm
theorem wrap_small {q : Nat} (h : q < 4294967296) : IntKind.u64.wrap (q : Int) % 4294967296 = (q : Int) := by rw [IntKind.wrap_u64]; omega
/-- One limb of a division by a limb, from above. -/
theorem divLimb_rel {w wr : World} {zs zr : List Nat} {g off n k j d r : Nat} (hkn : k < n) (hj : n - 1 - k = j) (hrd : r < d) (hlt : off + j < zr.length) (Hrow : Hid (Row wr g zr)) (Hok : Hid (Ok zr))
    (Hsame : Hid (Same zs zr (off + (n - k)) (off + n))) (Hval : Hid (wv zs (off + (n - k)) k = d * wv zr (off + (n - k)) k + r)) (Hgr : Hid (w.grownBy wr (some g))) (q : Nat) (hq : q = (4294967296 * r + lim zr (off + j)) / d) :
    q < 4294967296 ∧ Hid (Row (wr.setCell ⟨g, off + j, none⟩ (.int .u32 (q : Int))) g (zr.set (off + j) q)) ∧ Hid (Ok (zr.set (off + j) q)) ∧
    Hid (Same zs (zr.set (off + j) q) (off + (n - (k + 1))) (off + n)) ∧
    Hid (wv zs (off + (n - (k + 1))) (k + 1) = d * wv (zr.set (off + j) q) (off + (n - (k + 1))) (k + 1) + (4294967296 * r + lim zr (off + j)) % d) ∧
    Hid (w.grownBy (wr.setCell ⟨g, off + j, none⟩ (.int .u32 (q : Int))) (some g)) := by
  have ht := Hok.out.lim (off + j)
  have hq1 : q < 4294967296 := by
    rw [hq]
    refine Nat.div_lt_of_lt_mul ?_
    have : 4294967296 * r + 4294967296 ≤ d * 4294967296 := by
      rw [Nat.mul_comm d, ← Nat.mul_succ]; exact Nat.mul_le_mul (Nat.le_refl _) hrd
    omega
  have e1 : n - (k + 1) = j := by omega
  have e2 : n - k = j + 1 := by omega
  refine ⟨hq1, Hrow.out.set _ _, Hok.out.set _ hq1, ?_, ?_, grown_set Hgr.out _ _⟩
  · rw [Hid, e1]
    have := Hsame.out
    rw [e2] at this
    exact (this.mono (by omega) (Nat.le_refl _)).set (Nat.le_refl _) (by omega) _
  · have h := Hval.out
    rw [e2] at h
    rw [Hid, e1]
    have a := wv_add zs (off + j) 1 k
    have b := wv_add (zr.set (off + j) q) (off + j) 1 k
    rw [Nat.add_comm 1 k] at a b
    have z1 : wv zs (off + j) 1 = lim zs (off + j) := by simp [wv]
    have z2 : wv (zr.set (off + j) q) (off + j) 1 = q := by simp only [wv, Nat.pow_zero, Nat.one_mul, Nat.zero_add, Nat.add_zero]; exact lim_set_eq hlt
    have z3 : wv (zr.set (off + j) q) (off + j + 1) k = wv zr (off + j + 1) k := wv_congr fun i _ => lim_set_ne (by omega)
    have z4 := Hsame.out.2 (off + j) (.inl (by omega))
    rw [Nat.add_assoc off j 1] at a b z3
    rw [a, b, z1, z2, z3, h, Nat.pow_one, ← z4]
    have dm := Nat.div_add_mod (4294967296 * r + lim zr (off + j)) d
    rw [← hq] at dm
    rw [Nat.mul_add, Nat.mul_add, ← Nat.mul_assoc, ← Nat.mul_assoc, Nat.mul_comm d 4294967296]
    omega

set_option maxHeartbeats 1000000 in
theorem divLimb_any (g off n c d : Nat) (zs : List Nat) (w : World) (hr : Row w g zs) (hoff : off + n ≤ zs.length) (hz : Ok zs) (hl : off + n ≤ 35184372088832) (hd : 0 < d) (hd' : d < 4294967296) :
    Calls Try.prog 81 #[.slice (some ⟨g, off, none⟩) n c, .int .u32 (d : Int)] w fun e w' => ∃ zs' r, e = .returned (.int .u32 (r : Nat)) ∧ r < d ∧ Row w' g zs' ∧ Ok zs' ∧ Same zs zs' off (off + n) ∧
      wv zs off n = d * wv zs' off n + r ∧ w.grownBy w' (some g) := by
  go_enter Try.func81, Try.ntmps81
  go_wp2
  go_loopw [5, 10] (fun cv iv wr => ∃ (k r : Nat) (zr : List Nat), k ≤ n ∧ iv = .int .i64 k ∧ cv = .int .u64 r ∧ r < d ∧ Hid (Row wr g zr) ∧ Hid (Ok zr) ∧ Hid (Same zs zr (off + (n - k)) (off + n)) ∧
      Hid (wv zs (off + (n - k)) k = d * wv zr (off + (n - k)) k + r) ∧ Hid (w.grownBy wr (some g))) (fun _ iv _ => n - (intOf iv).toNat)
  case atStart => exact ⟨0, 0, zs, by omega, rfl, rfl, hd, hr, hz, Same.refl _ _ _, rfl, World.grownBy.refl w _⟩
  case round =>
    obtain ⟨k, r, zr, hk, rfl, rfl, hrd, Hrow, Hok, Hsame, Hval, Hgr⟩ := hrel
    by_cases hkn : k < n
    · obtain ⟨j, hj⟩ : ∃ j, n - 1 - k = j := ⟨_, rfl⟩
      have i1 : (n : Int) - 1 - (k : Int) = (j : Int) := by omega
      have hjn : j < n := by omega
      have Hj := Lib.hid hj
      clear hj
      have hlt : off + j < zr.length := by have := Hsame.out.1; omega
      have hc1 := Hrow.out.cell hlt
      have hf1 := Hrow.out.free (off + j)
      have ht := Hok.out.lim (off + j)
      have R := Lib.hid (divLimb_rel hkn Hj.out hrd hlt Hrow Hok Hsame Hval Hgr _ rfl)
      go_wp2
      rw [or_shift r (lim zr (off + j)) ht (by omega), tdiv_cast, tmod_cast, wrap_small R.out.1]
      exact ⟨⟨k + 1, (4294967296 * r + lim zr (off + j)) % d, _, by omega, by go_num, rfl, Nat.mod_lt _ hd, R.out.2⟩, by simp [intOf]; omega⟩
    · obtain rfl : k = n := by omega
      have e := Hval.out
      rw [Nat.sub_self, Nat.add_zero] at e
      have e2 := Hsame.out
      rw [Nat.sub_self, Nat.add_zero] at e2
      have E := Lib.hid (And.intro e e2)
      clear e e2
      go_wp2
      go_ret
      exact ⟨zr, r, rfl, hrd, Hrow.out, Hok.out, E.out.2, E.out.1, Hgr.out⟩

end Go.Proofs.Ytalgcppogjpilaa
