/-
  The walks of addMag, subMag, signed, limited, wordOf, divLimb.
-/
import Derived.Test.YtalgcppogjpilaaApi
namespace Go.Proofs.Ytalgcppogjpilaa
open Go.RowKit

theorem add_small {a b p : Nat} (ha : a < p) (hb : b < p) : a + b < p * 4294967296 := by omega

theorem no_carry {v s p cy : Nat} (h : v + p * cy = s) (d : s < p) : v = s := by
  rcases cy with _ | cy
  · simpa using h
  · rw [Nat.mul_succ] at h; omega

/-- The end of addMag, behind addTo. -/
theorem addMag_end {w w1 w2 : World} {xs ys zs' : List Nat} {n n' cy : Nat} (hx : Ok xs) (hy : Ok ys) (lx : xs.length = n) (ly : ys.length = n') (hle : n' ≤ n) (hn : n ≤ 1000000)
    (hb1 : Below w.heap.size w w1) (hz1 : w.heap.size < w1.heap.size) (hr2 : Row w2 w.heap.size zs') (hok : Ok zs') (hs : Same (over (List.replicate (n + 1) 0) 0 xs) zs' 0 (0 + (n + 1)))
    (hv : wv zs' 0 (n + 1) + 4294967296 ^ (n + 1) * cy = wv (over (List.replicate (n + 1) 0) 0 xs) 0 (n + 1) + val ys) (hg : w1.grownBy w2 (some w.heap.size)) :
    Sl w2 w2.heap.size (some ⟨w.heap.size, 0, none⟩) (n + 1) (n + 1) zs' ∧ val zs' = val xs + val ys ∧ Below w.heap.size w w2 := by
  have hl : zs'.length = n + 1 := by rw [hs.1, over_length (by rw [List.length_replicate]; omega), List.length_replicate]
  have h2 : w.heap.size < w2.heap.size := hr2.lt
  refine ⟨?_, ?_, below_grown hb1 hg (Nat.le_refl _) (by omega)⟩
  · have := hr2.sl (B := w2.heap.size) (n := n + 1) (c := n + 1) h2 0 (by omega) (Nat.le_refl _) (by omega) hok
    rwa [List.drop_zero, List.take_of_length_le (by omega)] at this
  · rw [wv_over_zeros (by omega), wv_all zs' (by omega)] at hv
    have a := val_lt hx
    have b := val_lt hy
    have c : 4294967296 ^ ys.length ≤ 4294967296 ^ n := Nat.pow_le_pow_right (by decide) (by omega)
    rw [lx] at a
    have d := add_small a (Nat.lt_of_lt_of_le b c)
    rw [← Nat.pow_succ] at d
    exact no_carry hv d

set_option maxHeartbeats 1000000 in
theorem addMag_any (A A' : Option Addr) (n c n' c' : Nat) (xs ys : List Nat) (w : World) (h : Sl w w.heap.size A n c xs) (h' : Sl w w.heap.size A' n' c' ys) (hn : n ≤ 1000000) (hn' : n' ≤ 1000000) :
    Calls Try.prog 64 #[.slice A n c, .slice A' n' c'] w (RetNum (val xs + val ys) w) := by
  have Hl := Lib.hid h.len
  have Hl' := Lib.hid h'.len
  have hb0 := Below.refl w.heap.size w
  by_cases hlt : n < n'
  · have ht : (n : Int) < (n' : Int) := by omega
    have hmk := make_any ((n' : Int) + 1) (n' + 1) (by omega) (by omega)
    have Hrow := Lib.hid (Row.made w (n' + 1))
    have e : ys.take (n' + 1) = ys := List.take_of_length_le (by rw [Hl'.out]; omega)
    have E := Lib.hid e
    clear e
    go_enter Try.func64, Try.ntmps64
    go_wp2_with (with_reducible refine copy_us rfl _ _ rfl _ _ _ _ _ _ w.heap.size _ ys _ rfl rfl Hrow.out (h'.alloc (Nat.le_refl _) _) (by rw [List.length_replicate]; omega) ?_; intro w1 hw hb)
    rw [E.out] at hw
    have hz : w.heap.size < w1.heap.size := hw.lt
    have hb1 := (hb0.alloc (Nat.le_refl _) (.cells (zrow (n' + 1)) 51)).trans hb
    go_wp2_with fail
    refine (addTo_any w.heap.size 0 (n' + 1) (n' + 1) w.heap.size n c A _ xs w1 hw (by rw [over_length (by rw [List.length_replicate, Hl'.out]; omega), List.length_replicate]; omega) (Ok.over (ok_zeros _) h'.ok 0) (by omega) (h.below hb1) (Nat.le_refl _) (by omega)).mono ?_
    rintro e w2 ⟨rfl, zs', cy, hcy, hr2, hok, hs, hv, hg⟩
    have R := addMag_end h'.ok h.ok Hl'.out Hl.out (by omega) hn' hb1 hz hr2 hok hs hv hg
    have hsl := R.1
    have HR := Lib.hid R.2
    clear hs hv R hw hr2
    go_wp2_with fail
    refine (trim_any _ _ _ _ zs' w2 hsl).mono ?_
    rintro e w3 ⟨⟨k, hk, rfl, hnz, hv⟩, rfl⟩
    go_wp2
    go_ret
    exact ⟨_, _, _, _, rfl, hsl.to hk, hnz, by rw [hv, HR.out.1, Nat.add_comm], HR.out.2⟩
  · have ht : (n' : Int) ≤ (n : Int) := by omega
    have hmk := make_any ((n : Int) + 1) (n + 1) (by omega) (by omega)
    have Hrow := Lib.hid (Row.made w (n + 1))
    have e : xs.take (n + 1) = xs := List.take_of_length_le (by rw [Hl.out]; omega)
    have E := Lib.hid e
    clear e
    go_enter Try.func64, Try.ntmps64
    go_wp2_with (with_reducible refine copy_us rfl _ _ rfl _ _ _ _ _ _ w.heap.size _ xs _ rfl rfl Hrow.out (h.alloc (Nat.le_refl _) _) (by rw [List.length_replicate]; omega) ?_; intro w1 hw hb)
    rw [E.out] at hw
    have hz : w.heap.size < w1.heap.size := hw.lt
    have hb1 := (hb0.alloc (Nat.le_refl _) (.cells (zrow (n + 1)) 51)).trans hb
    go_wp2_with fail
    refine (addTo_any w.heap.size 0 (n + 1) (n + 1) w.heap.size n' c' A' _ ys w1 hw (by rw [over_length (by rw [List.length_replicate, Hl.out]; omega), List.length_replicate]; omega) (Ok.over (ok_zeros _) h.ok 0) (by omega) (h'.below hb1) (Nat.le_refl _) (by omega)).mono ?_
    rintro e w2 ⟨rfl, zs', cy, hcy, hr2, hok, hs, hv, hg⟩
    have R := addMag_end h.ok h'.ok Hl.out Hl'.out (by omega) hn hb1 hz hr2 hok hs hv hg
    have hsl := R.1
    have HR := Lib.hid R.2
    clear hs hv R hw hr2
    go_wp2_with fail
    refine (trim_any _ _ _ _ zs' w2 hsl).mono ?_
    rintro e w3 ⟨⟨k, hk, rfl, hnz, hv⟩, rfl⟩
    go_wp2
    go_ret
    exact ⟨_, _, _, _, rfl, hsl.to hk, hnz, by rw [hv, HR.out.1], HR.out.2⟩

set_option maxHeartbeats 1000000 in
theorem subMag_any (A A' : Option Addr) (n c n' c' : Nat) (xs ys : List Nat) (w : World) (h : Sl w w.heap.size A n c xs) (h' : Sl w w.heap.size A' n' c' ys) (hy : Nz ys) (hle : val ys ≤ val xs) :
    Calls Try.prog 65 #[.slice A n c, .slice A' n' c'] w (RetNum (val xs - val ys) w) := by
  have Hl := Lib.hid h.len
  have hn : n' ≤ n := by
    rcases Nat.lt_or_ge n n' with hlt | hge
    · have := val_lt_of_length h.ok hy (by rw [h.len, h'.len]; exact hlt)
      omega
    · exact hge
  have Hle := Lib.hid hle
  clear hle
  have hcap := h.cap
  have hreach := h.reach
  have hcr := h.capr
  go_enter Try.func65, Try.ntmps65
  go_wp2_with fail
  refine (clone_any A n c w.heap.size xs w h (Nat.le_refl _)).mono ?_
  rintro e w1 ⟨rfl, hrow, hb1⟩
  have hz := hrow.lt
  go_wp2_with fail
  refine (subFrom_any w.heap.size 0 n n w.heap.size n' c' A' xs ys w1 hrow (by rw [Hl.out]; omega) h.ok (by omega) (h'.below hb1) (Nat.le_refl _) hn (by rw [wv_all xs (by rw [Hl.out]; omega)]; exact Hle.out)).mono ?_
  rintro e w2 ⟨rfl, zs', hr2, hok, hs, hv, hg⟩
  have Hr2 := Lib.hid hr2
  have Hs := Lib.hid hs
  have Hv := Lib.hid hv
  clear hr2 hs hv
  have hl : zs'.length = n := by rw [Hs.out.1, Hl.out]
  have HL := Lib.hid hl
  clear hl
  have hz2 := Hr2.out.lt
  have hsl := Hr2.out.sl (B := w2.heap.size) (n := n) (c := n) hz2 0 (by rw [HL.out]; omega) (Nat.le_refl _) (by omega) hok
  rw [List.drop_zero, List.take_of_length_le (by rw [HL.out]; omega)] at hsl
  go_wp2_with fail
  refine (trim_any _ _ _ _ zs' w2 hsl).mono ?_
  rintro e w3 ⟨⟨k, hk, rfl, hnz, hv⟩, rfl⟩
  have HV := Lib.hid hv
  clear hv
  go_wp2
  go_ret
  refine ⟨_, _, _, _, rfl, hsl.to hk, hnz, ?_, below_grown hb1 hg (Nat.le_refl _) (by omega)⟩
  have a := Hv.out
  rw [wv_all zs' (by rw [HL.out]; omega), wv_all xs (by rw [Hl.out]; omega)] at a
  rw [HV.out]; omega

theorem ret_neg {a b : Bool} {v : Value} (h : a = b) : Ending.returned (.agg #[.bool a, v]) = .returned (.agg #[.bool b, v]) := by rw [h]
theorem sg_false (v : Nat) : sg false v = (v : Int) := rfl
theorem sg_true (v : Nat) : sg true v = -(v : Int) := rfl

set_option maxHeartbeats 400000 in
theorem signed_any (neg : Bool) (A : Option Addr) (n c : Nat) (xs : List Nat) (w : World) (h : Sl w w.heap.size A n c xs) (hx : Nz xs) :
    Calls Try.prog 66 #[.bool neg, .slice A n c] w (RetI (sg neg (val xs)) w) := by
  have hcap := h.cap
  have hreach := h.reach
  have hcr := h.capr
  have hb : ∀ b : Bool, Below w.heap.size w (w.alloc (.cells #[.bool b, .slice A n c] 24)) := fun b => (Below.refl w.heap.size w).alloc (Nat.le_refl _) _
  have hs : ∀ b : Bool, Sl (w.alloc (.cells #[.bool b, .slice A n c] 24)) (w.alloc (.cells #[.bool b, .slice A n c] 24)).heap.size A n c xs := fun b => h.on (hb b)
  have Hb := Lib.hid hb
  have Hs := Lib.hid hs
  clear hb hs
  have ha := Lib.hid (sg_abs neg (val xs))
  have hl := h.len
  cases neg with
  | false =>
    have Hd := Lib.hid (show false = decide (sg false (val xs) < 0) by rw [sg_false]; simp)
    clear hl
    go_enter Try.func66, Try.ntmps66
    go_wp2
    exact bodyPost_ret (v := .agg #[.bool false, .slice A n c]) (by simp [results, Try.results66, go_sem]) rfl ⟨A, n, c, xs, ret_neg Hd.out, Hs.out _, hx, ha.out.symm, Hb.out _⟩
  | true =>
    by_cases h0 : n = 0
    · subst h0
      have e : xs = [] := List.eq_nil_of_length_eq_zero hl
      subst e
      have Hd := Lib.hid (show false = decide (sg true (val []) < 0) by rw [sg_true]; simp [val])
      clear hl
      go_enter Try.func66, Try.ntmps66
      go_wp2
      exact bodyPost_ret (v := .agg #[.bool false, .slice A 0 c]) (by simp [results, Try.results66, go_sem]) rfl ⟨A, 0, c, [], ret_neg Hd.out, Hs.out _, hx, ha.out.symm, Hb.out _⟩
    · have hp : 0 < val xs := val_pos hx (by rintro rfl; exact h0 hl.symm)
      have Hd := Lib.hid (show true = decide (sg true (val xs) < 0) by rw [sg_true]; simp; omega)
      clear hl hp
      have hp : 0 < n := by omega
      go_enter Try.func66, Try.ntmps66
      go_wp2
      exact bodyPost_ret (v := .agg #[.bool true, .slice A n c]) (by simp [results, Try.results66, go_sem]) rfl ⟨A, n, c, xs, ret_neg Hd.out, Hs.out _, hx, ha.out.symm, Hb.out _⟩

set_option maxHeartbeats 400000 in
theorem limited_any (neg : Bool) (A : Option Addr) (n c : Nat) (xs : List Nat) (w : World) (h : Sl w w.heap.size A n c xs) (hx : Nz xs) :
    Calls Try.prog 60 #[.bool neg, .slice A n c] w (RetIE (fitZ (sg neg (val xs))) (fitE (sg neg (val xs))) w) := by
  have hcap := h.cap
  have hreach := h.reach
  have hcr := h.capr
  have Ha := Lib.hid (sg_abs neg (val xs))
  have Hb := Lib.hid ((Below.refl w.heap.size w).alloc (Nat.le_refl _) (.cells #[.bool false, .slice none 0 0] 24))
  have hl := h.len
  by_cases h1 : n ≤ 128
  · have hf := fit_yes (z := sg neg (val xs)) (by rw [sg_abs, big_iff h.ok hx]; omega)
    rw [hf.1, hf.2]
    have h2 : (n : Int) ≤ 128 := by omega
    clear hl hf
    go_enter Try.func60, Try.ntmps60
    go_wp2_with fail
    refine (signed_any neg A n c xs _ ?_ hx).mono ?_
    · exact (h.on Hb.out)
    rintro e w1 ⟨A1, n1, c1, xs1, rfl, hs1, hx1, hv1, hb1⟩
    have hbx := (Bx.new w false none 0 0).below hb1 (by simp)
    have hc0 := hbx.c0
    have hc1 := hbx.c1
    have hf0 := hbx.f 0
    have hf1 := hbx.f 1
    have Hbx := Lib.hid hbx
    have Hv := Lib.hid hv1
    clear hv1 hbx
    go_wp2
    exact bodyPost_ret (v := .tuple #[.agg #[.bool (decide (sg neg (val xs) < 0)), .slice A1 n1 c1], .int .i64 0]) (by simp [results, Try.results60, go_sem, hc0, hc1]) rfl
      ⟨A1, n1, c1, xs1, rfl, hs1.ret Hbx.out _ _, hx1, Hv.out, below_ret (below_chain Hb.out (by simp) hb1) (Nat.le_refl _) _ _⟩
  · have hf := fit_no (z := sg neg (val xs)) (by rw [sg_abs, big_iff h.ok hx]; omega)
    rw [hf.1, hf.2]
    have h2 : 128 < (n : Int) := by omega
    clear hl hf
    go_enter Try.func60, Try.ntmps60
    go_wp2
    exact bodyPost_ret (v := .tuple #[.agg #[.bool false, .slice none 0 0], .int .i64 2]) (by simp [results, Try.results60, go_sem]) rfl
      ⟨none, 0, 0, [], rfl, Sl.nil _ _, Nz.nil, rfl, Hb.out⟩

end Go.Proofs.Ytalgcppogjpilaa
