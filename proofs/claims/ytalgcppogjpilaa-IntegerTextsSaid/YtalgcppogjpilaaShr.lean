/-
  The walk of shiftRight.
-/
import Derived.Test.YtalgcppogjpilaaDiv
import Derived.Test.YtalgcppogjpilaaDigits
namespace Go.Proofs.Ytalgcppogjpilaa
open Go.RowKit

/-- m[k:] -/
theorem Sl.from_ {w : World} {B n c k : Nat} {A : Option Addr} {xs : List Nat} (h : Sl w B A n c xs) (hk : k ≤ n) : Sl w B (if c = k then A else A.map (·.add k)) (n - k) (c - k) (xs.drop k) := by
  have hc := h.cap
  have hr := h.reach
  have hcr := h.capr
  refine ⟨by omega, by omega, by omega, ?_, ?_, h.ok.drop k⟩
  · intro e
    by_cases hck : c = k
    · omega
    · rw [if_neg hck] at e
      have : A = none := by cases A <;> simp_all
      have := h.nil_ this
      omega
  · have := h.reads.cut (cap := c) hk hc
    rw [Nat.mul_one] at this
    rw [us, List.map_drop]
    exact this

theorem shr_cast (X t : Nat) : ((X : Int) / 2 ^ t % 4294967296) = ((X / 2 ^ t % 4294967296 : Nat) : Int) := by
  rw [Int.natCast_emod, Int.natCast_ediv, Int.natCast_pow]; rfl
theorem shr_rel {w wr : World} {zr ys : List Nat} {g k m t : Nat} (hy : Ok ys) (ht : t ≤ 32) (hkm : k < m) (Hlen : Hid (zr.length = m)) (Hrw : Hid (Row wr g zr)) (Hok : Hid (Ok zr))
    (Hdone : Hid (∀ i, i < k → lim zr i = val ys / 2 ^ t / 4294967296 ^ i % 4294967296)) (Hrest : Hid (∀ i, k ≤ i → lim zr i = lim ys i)) (Hb : Hid (Below g w wr)) (X : Nat) (hX : X = lim zr k + 4294967296 * lim zr (k + 1)) :
    Hid ((zr.set k (X / 2 ^ t % 4294967296)).length = m) ∧ Hid (Row (wr.setCell ⟨g, k, none⟩ (.int .u32 ((X / 2 ^ t % 4294967296 : Nat) : Int))) g (zr.set k (X / 2 ^ t % 4294967296))) ∧ Hid (Ok (zr.set k (X / 2 ^ t % 4294967296))) ∧
    Hid (∀ i, i < k + 1 → lim (zr.set k (X / 2 ^ t % 4294967296)) i = val ys / 2 ^ t / 4294967296 ^ i % 4294967296) ∧ Hid (∀ i, k + 1 ≤ i → lim (zr.set k (X / 2 ^ t % 4294967296)) i = lim ys i) ∧
    Hid (Below g w (wr.setCell ⟨g, k, none⟩ (.int .u32 ((X / 2 ^ t % 4294967296 : Nat) : Int)))) := by
  refine ⟨by rw [Hid, List.length_set, Hlen.out], Hrw.out.set _ _, Hok.out.set _ (Nat.mod_lt _ (by decide)), fun i hi => ?_, fun i hi => ?_, Hb.out.setCell (Nat.le_refl _) _⟩
  · by_cases hik : i = k
    · subst hik
      rw [lim_set_eq (by rw [Hlen.out]; exact hkm), hX, Hrest.out i (Nat.le_refl _), Hrest.out (i + 1) (by omega), lim_digit hy i, lim_digit hy (i + 1)]
      exact shr_limb _ _ _ ht
    · rw [lim_set_ne (by omega)]; exact Hdone.out i (by omega)
  · rw [lim_set_ne (by omega)]; exact Hrest.out i (by omega)
theorem shr_end {xs zr : List Nat} {s l t : Nat} (hx : Ok xs) (hl : l < xs.length) (hs : s = 32 * l + t) (hlen : zr.length = xs.length - l)
    (hd : ∀ i, i < xs.length - l → lim zr i = val (xs.drop l) / 2 ^ t / 4294967296 ^ i % 4294967296) : val zr = val xs / 2 ^ s := by
  have e1 : val xs / 4294967296 ^ l = val (xs.drop l) := by
    rw [val_take_drop xs l (by omega), Nat.add_mul_div_left _ _ (pow_pos' l)]
    have := val_lt (hx.take l)
    rw [List.length_take, Nat.min_eq_left (by omega)] at this
    rw [Nat.div_eq_of_lt this, Nat.zero_add]
  have e2 : (2 : Nat) ^ s = 4294967296 ^ l * 2 ^ t := by
    rw [hs, Nat.pow_add, Nat.pow_mul]
  rw [e2, ← Nat.div_div_eq_div_mul, e1, ← wv_all zr (show zr.length ≤ xs.length - l by omega), wv_digits hd, Nat.mod_eq_of_lt]
  refine Nat.lt_of_le_of_lt (Nat.div_le_self _ _) ?_
  have := val_lt (hx.drop l)
  rwa [List.length_drop] at this

set_option maxHeartbeats 1000000 in
theorem shiftRight_any (A : Option Addr) (n c s l t : Nat) (xs : List Nat) (w : World) (h : Sl w w.heap.size A n c xs) (hs : s ≤ 1000000) (hl : (s : Int) / 32 = (l : Int)) (ht : (s : Int) % 32 = (t : Int)) :
    Calls Try.prog 78 #[.slice A n c, .int .i64 (s : Int)] w (RetNum (val xs / 2 ^ s) w) := by
  have hcap := h.cap
  have hreach := h.reach
  have hcr := h.capr
  have Hst := Lib.hid (show s = 32 * l + t ∧ t < 32 by omega)
  by_cases hln : l < n
  · have hne : ¬ c = l := by omega
    go_enter Try.func78, Try.ntmps78
    go_wp2_with fail
    have hsl := h.from_ (k := l) (by omega)
    rw [if_neg hne] at hsl
    have HL := Lib.hid hsl.len
    refine (clone_any _ _ _ _ _ _ hsl (Nat.le_refl _)).mono ?_
    rintro e w1 ⟨rfl, hrow, hb1⟩
    have Hrow0 := Lib.hid hrow
    have Hb1 := Lib.hid hb1
    clear hrow hb1
    have hmn : n - l ≤ n := by omega
    have Hend := Lib.hid (fun zr hlen hdig => shr_end (s := s) (l := l) (t := t) (zr := zr) h.ok (by rw [h.len]; exact hln) Hst.out.1 hlen hdig)
    rw [h.len] at Hend
    generalize hm : n - l = m at *
    generalize hys : xs.drop l = ys at *
    clear hm hys
    go_wp2
    go_loopw [24] (fun iv wr => ∃ (k : Nat) (zr : List Nat), k ≤ m ∧ iv = .int .i64 k ∧ Hid (zr.length = m) ∧ Hid (Row wr w.heap.size zr) ∧ Hid (Ok zr) ∧ Hid (∀ i, i < k → lim zr i = val ys / 2 ^ t / 4294967296 ^ i % 4294967296) ∧
        Hid (∀ i, k ≤ i → lim zr i = lim ys i) ∧ Hid (Below w.heap.size w wr)) (fun iv _ => m - (intOf iv).toNat)
    case atStart => exact ⟨0, ys, by omega, rfl, HL.out, Hrow0.out, hsl.ok, (fun i hi => absurd hi (by omega)), (fun _ _ => rfl), Hb1.out⟩
    case round =>
      obtain ⟨k, zr, hk, rfl, Hlen, Hrw, Hok, Hdone, Hrest, Hb⟩ := hrel
      by_cases hkm : k < m
      · have hc1 := Hrw.out.cell (i := k) (by rw [Hlen.out]; exact hkm)
        have hf1 := Hrw.out.free k
        have x1 := Hok.out.lim k
        by_cases hk1 : k + 1 < m
        · have hc2 := Hrw.out.cell (i := k + 1) (by rw [Hlen.out]; exact hk1)
          have x2 := Hok.out.lim (k + 1)
          have R := Lib.hid (shr_rel (m := m) hsl.ok (show t ≤ 32 by have := Hst.out.2; omega) hkm Hlen Hrw Hok Hdone Hrest Hb _ rfl)
          go_wp2
          rw [or_shift' (lim zr k) (lim zr (k + 1)) x1 x2, shr_cast]
          exact ⟨⟨k + 1, _, by omega, by go_num, R.out⟩, by simp [intOf]; omega⟩
        · have Z := Lib.hid (lim_past (xs := zr) (k := k + 1) (by rw [Hlen.out]; omega))
          have R := Lib.hid (shr_rel (m := m) hsl.ok (show t ≤ 32 by have := Hst.out.2; omega) hkm Hlen Hrw Hok Hdone Hrest Hb (lim zr k) (by rw [Z.out]; omega))
          go_wp2
          rw [shr_cast]
          exact ⟨⟨k + 1, _, by omega, by go_num, R.out⟩, by simp [intOf]; omega⟩
      · obtain rfl : k = m := by omega
        have hz := Hrw.out.lt
        have hsz := Hrw.out.sl (B := wr.heap.size) (n := k) (c := k) hz 0 (by rw [Hlen.out]; omega) (Nat.le_refl _) (by omega) Hok.out
        rw [List.drop_zero, List.take_of_length_le (by rw [Hlen.out]; omega)] at hsz
        have He := Lib.hid (Hend.out zr Hlen.out Hdone.out)
        go_wp2_with fail
        refine (trim_any _ _ _ _ zr wr hsz).mono ?_
        rintro e w3 ⟨⟨j, hj, rfl, hnz, hv⟩, rfl⟩
        have HV := Lib.hid hv
        clear hv
        go_wp2
        go_ret
        exact ⟨_, _, _, _, rfl, hsz.to hj, hnz, by rw [HV.out]; exact He.out, Hb.out⟩
  · go_enter Try.func78, Try.ntmps78
    have Hz := Lib.hid (show val xs / 2 ^ s = 0 by
      refine Nat.div_eq_of_lt (Nat.lt_of_lt_of_le (val_lt h.ok) ?_)
      rw [show (4294967296 : Nat) = 2 ^ 32 by decide, ← Nat.pow_mul, h.len]
      exact Nat.pow_le_pow_right (by decide) (by have := Hst.out; omega))
    go_wp2
    rw [Hz.out]
    go_ret
    exact ⟨none, 0, 0, [], rfl, Sl.nil _ _, Nz.nil, rfl, Below.refl _ _⟩

end Go.Proofs.Ytalgcppogjpilaa
