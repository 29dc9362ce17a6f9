/-
 Written by mkbase.py: Ref.
-/
import Derived.Test.YtphinlongdoedaaGreatBaseA
namespace Go.Proofs.YtphinlongdoedaaGreat
open Go.RowKit
set_option maxHeartbeats 2000000
theorem zD4 (A : Option Addr) (n c B : Nat) (xs : List Nat) (w : World) (h : Sl w B A n c xs) :
 Calls Tryz.prog 50 #[.slice A n c] w fun e w' => (∃ k, k <= n /\ e = .returned (.slice A k c) /\ Nz (xs.take k) /\ val (xs.take k) = val xs) /\ w = w' := by
 have hc := h.cap
 have hr := h.reach
 have hcr := h.capr
 have hl := h.len
 go_enter Tryz.func50, Tryz.ntmps50
 go_wp2
 go_loop [0] (fun i => ∃ k : Nat, k <= n /\ i = .slice A k c /\ val (xs.take k) = val xs) (fun i => match i with | .slice _ k _ => k | _ => 0)
 case atStart => exact ⟨n, Nat.le_refl _, rfl, by rw [List.take_of_length_le (by omega)]⟩
 case round =>
  obtain ⟨k, hk, rfl, hv⟩ := hrel
  have HV := hI hv
  clear hv hl
  rcases k with _ | k
  . go_wp2
    go_ret
    exact ⟨⟨0, by omega, rfl, zT2 (.inl rfl), HV.out⟩, rfl⟩
  . obtain ⟨ad, rfl, hb, hcell⟩ := h.cell (k := k) (by omega)
    go_wp2
    . have h0 : ((lim xs k : Nat) == (0 : Int)) = true := by assumption
      go_round
      case rel => exact ⟨k, by omega, rfl, by rw [<- HV.out, zL2]; simpa using h0⟩
      case measure => simp
    . have h0 : ((lim xs k : Nat) == (0 : Int)) = false := by assumption
      go_ret
      exact ⟨⟨k + 1, by omega, rfl, zT2 (.inr ⟨by rw [h.len]; omega, by simpa using h0⟩), HV.out⟩, rfl⟩
theorem rplus_rel {w wr : World} {zr xs ys : List Nat} {g k m cy : Nat} (hlt : k < m) (hm : zr.length = m) (Hrow : Hid (Row wr g zr)) (Hok : Hid (Ok zr))
 (Hval : Hid (wv zr 0 k + 4294967296 ^ k * cy = val (xs.take k) + val (ys.take k))) (Hb : Hid (Below g w wr)) (s : Nat) (hs : s = cy + lim xs k + lim ys k) :
 Hid ((zr.set k (s % 4294967296)).length = m) /\ Hid (Row (wr.setCell ⟨g, k, none⟩ (.int .u32 ((s % 4294967296 : Nat) : Int))) g (zr.set k (s % 4294967296))) /\ Hid (Ok (zr.set k (s % 4294967296))) ∧
 Hid (wv (zr.set k (s % 4294967296)) 0 (k + 1) + 4294967296 ^ (k + 1) * (s / 4294967296) = val (xs.take (k + 1)) + val (ys.take (k + 1))) ∧
 Hid (Below g w (wr.setCell ⟨g, k, none⟩ (.int .u32 ((s % 4294967296 : Nat) : Int)))) := by
 refine ⟨by rw [Hid, List.length_set, hm], Hrow.out.set _ _, Hok.out.set _ (by omega), ?_, Hb.out.setCell (Nat.le_refl _) _⟩
 have e := zD2 (zs := zr) (off := 0) (k := k) (v := s % 4294967296) (by omega)
 rw [Nat.zero_add] at e
 rw [Hid, e, zB, zB, Nat.pow_succ]
 exact zS2 (P := 4294967296 ^ k) (v := s % 4294967296) (c' := s / 4294967296) (c := cy) (b := lim ys k) (t := lim xs k) (by omega) Hval.out
theorem rplus_end {xs ys zr : List Nat} {n n' m cy : Nat} (hx : Ok xs) (hy : Ok ys) (lx : xs.length = n) (ly : ys.length = n') (h1 : n <= m) (h2 : n' <= m)
 (hv : wv zr 0 (m + 1) + 4294967296 ^ (m + 1) * cy = val (xs.take (m + 1)) + val (ys.take (m + 1))) : wv zr 0 (m + 1) = val xs + val ys := by
 rw [List.take_of_length_le (by omega), List.take_of_length_le (by omega)] at hv
 have a := zD hx
 have b := zD hy
 have c : 4294967296 ^ ys.length <= 4294967296 ^ m := Nat.pow_le_pow_right (by decide) (by omega)
 have d : 4294967296 ^ xs.length <= 4294967296 ^ m := Nat.pow_le_pow_right (by decide) (by omega)
 have e := add_small (Nat.lt_of_lt_of_le a d) (Nat.lt_of_lt_of_le b c)
 rw [<- Nat.pow_succ] at e
 exact no_carry hv e
theorem zM5 (A A' : Option Addr) (n c n' c' : Nat) (xs ys : List Nat) (w : World) (h : Sl w w.heap.size A n c xs) (h' : Sl w w.heap.size A' n' c' ys) (hn : n <= 1000000) (hn' : n' <= 1000000) :
 Calls Tryz.prog 84 #[.slice A n c, .slice A' n' c'] w (zK9 (val xs + val ys) w) := by
 by_cases hle : n < n'
 . have hle' : (n : Int) < (n' : Int) := by omega
   have hmk := zD7 ((n' : Int) + 1) (n' + 1) (by omega) (by omega)
   have Hrow := hI (Row.made w (n' + 1))
   have Hb0 := hI ((Below.refl w.heap.size w).alloc (Nat.le_refl _) (.cells (zrow (n' + 1)) 64))
   have He := hI (fun (cy : Nat) (zr : List Nat) => rplus_end (zr := zr) (cy := cy) (m := n') h.ok h'.ok h.len h'.len (by omega) (by omega))
   go_enter Tryz.func84, Tryz.ntmps84
   go_wp2
   go_loopw [6, 7] (fun cv iv wr => ∃ (k cy : Nat) (zr : List Nat), k <= n' + 1 /\ iv = .int .i64 k /\ cv = .int .u64 cy /\ cy <= 1 /\ Hid (zr.length = n' + 1) /\ Hid (Row wr w.heap.size zr) /\ Hid (Ok zr) ∧
    Hid (wv zr 0 k + 4294967296 ^ k * cy = val (xs.take k) + val (ys.take k)) /\ Hid (Below w.heap.size w wr)) (fun _ iv _ => n' + 1 - (intOf iv).toNat)
   case atStart => exact ⟨0, 0, List.replicate (n' + 1) 0, by omega, rfl, rfl, by omega, by rw [Hid, List.length_replicate], Hrow.out, zD9 _, by simp [Hid, wv, val], Hb0.out⟩
   case round =>
    obtain ⟨k, cy, zr, hk, rfl, rfl, hcy, Hlen, Hrw, Hok, Hval, Hb⟩ := hrel
    by_cases hkn : k < n' + 1
    . have hc1 := Hrw.out.cell (i := k) (by rw [Hlen.out]; exact hkn)
      have hf1 := Hrw.out.free k
      have R := hI (rplus_rel (xs := xs) (ys := ys) hkn Hlen.out Hrw Hok Hval Hb _ rfl)
      have lx := h.ok.lim k
      have ly := h'.ok.lim k
      by_cases k1 : k < n
      . obtain ⟨ad, rfl, _, hcx⟩ := (h.below Hb.out).cell k1
        by_cases k2 : k < n'
        . obtain ⟨ad', rfl, _, hcy'⟩ := (h'.below Hb.out).cell k2
          go_wp2
          rw [show Value.int .u32 ((↑cy + ↑(lim xs k) + ↑(lim ys k)) % 4294967296) = Value.int .u32 (((cy + lim xs k + lim ys k) % 4294967296 : Nat) : Int) by go_num]
          exact ⟨⟨k + 1, (cy + lim xs k + lim ys k) / 4294967296, _, by omega, by go_num, by go_num, by omega, R.out⟩, by simp [intOf]; omega⟩
        . omega
      . have Z1 := hI (zF h (k := k) (by omega))
        rw [Z1.out, Nat.add_zero] at R
        by_cases k2 : k < n'
        . obtain ⟨ad', rfl, _, hcy'⟩ := (h'.below Hb.out).cell k2
          go_wp2
          rw [show Value.int .u32 ((↑cy + ↑(lim ys k)) % 4294967296) = Value.int .u32 (((cy + lim ys k) % 4294967296 : Nat) : Int) by go_num]
          exact ⟨⟨k + 1, (cy + lim ys k) / 4294967296, _, by omega, by go_num, by go_num, by omega, R.out⟩, by simp [intOf]; omega⟩
        . have Z2 := hI (zF h' (k := k) (by omega))
          rw [Z2.out, Nat.add_zero] at R
          rw [show cy % 4294967296 = cy by omega] at R
          go_wp2
          exact ⟨⟨k + 1, cy / 4294967296, _, by omega, by go_num, by go_num, by omega, R.out⟩, by simp [intOf]; omega⟩
    . obtain rfl : k = n' + 1 := by omega
      have Hz := hI Hrw.out.lt
      have hsl := Hrw.out.sl (B := wr.heap.size) (n := n' + 1) (c := n' + 1) Hrw.out.lt 0 (by rw [Hlen.out]; omega) (Nat.le_refl _) (by omega) Hok.out
      rw [List.drop_zero, List.take_of_length_le (by rw [Hlen.out]; omega)] at hsl
      go_wp2_with fail
      refine (zD4 _ _ _ _ zr wr hsl).mono ?_
      rintro e w3 ⟨⟨k, hk, rfl, hnz, hv⟩, rfl⟩
      have HV := hI hv
      clear hv
      go_wp2
      go_ret
      exact ⟨_, _, _, _, rfl, hsl.to hk, hnz, by rw [HV.out, <- zF7 zr (show zr.length <= n' + 1 by rw [Hlen.out]; omega)]; exact He.out _ _ Hval.out, Hb.out⟩
 . have hle' : (n' : Int) <= (n : Int) := by omega
   have hmk := zD7 ((n : Int) + 1) (n + 1) (by omega) (by omega)
   have Hrow := hI (Row.made w (n + 1))
   have Hb0 := hI ((Below.refl w.heap.size w).alloc (Nat.le_refl _) (.cells (zrow (n + 1)) 64))
   have He := hI (fun (cy : Nat) (zr : List Nat) => rplus_end (zr := zr) (cy := cy) (m := n) h.ok h'.ok h.len h'.len (by omega) (by omega))
   go_enter Tryz.func84, Tryz.ntmps84
   go_wp2
   go_loopw [6, 7] (fun cv iv wr => ∃ (k cy : Nat) (zr : List Nat), k <= n + 1 /\ iv = .int .i64 k /\ cv = .int .u64 cy /\ cy <= 1 /\ Hid (zr.length = n + 1) /\ Hid (Row wr w.heap.size zr) /\ Hid (Ok zr) ∧
    Hid (wv zr 0 k + 4294967296 ^ k * cy = val (xs.take k) + val (ys.take k)) /\ Hid (Below w.heap.size w wr)) (fun _ iv _ => n + 1 - (intOf iv).toNat)
   case atStart => exact ⟨0, 0, List.replicate (n + 1) 0, by omega, rfl, rfl, by omega, by rw [Hid, List.length_replicate], Hrow.out, zD9 _, by simp [Hid, wv, val], Hb0.out⟩
   case round =>
    obtain ⟨k, cy, zr, hk, rfl, rfl, hcy, Hlen, Hrw, Hok, Hval, Hb⟩ := hrel
    by_cases hkn : k < n + 1
    . have hc1 := Hrw.out.cell (i := k) (by rw [Hlen.out]; exact hkn)
      have hf1 := Hrw.out.free k
      have R := hI (rplus_rel (xs := xs) (ys := ys) hkn Hlen.out Hrw Hok Hval Hb _ rfl)
      have lx := h.ok.lim k
      have ly := h'.ok.lim k
      by_cases k1 : k < n
      . obtain ⟨ad, rfl, _, hcx⟩ := (h.below Hb.out).cell k1
        by_cases k2 : k < n'
        . obtain ⟨ad', rfl, _, hcy'⟩ := (h'.below Hb.out).cell k2
          go_wp2
          rw [show Value.int .u32 ((↑cy + ↑(lim xs k) + ↑(lim ys k)) % 4294967296) = Value.int .u32 (((cy + lim xs k + lim ys k) % 4294967296 : Nat) : Int) by go_num]
          exact ⟨⟨k + 1, (cy + lim xs k + lim ys k) / 4294967296, _, by omega, by go_num, by go_num, by omega, R.out⟩, by simp [intOf]; omega⟩
        . have Z2 := hI (zF h' (k := k) (by omega))
          rw [Z2.out, Nat.add_zero] at R
          go_wp2
          rw [show Value.int .u32 ((↑cy + ↑(lim xs k)) % 4294967296) = Value.int .u32 (((cy + lim xs k) % 4294967296 : Nat) : Int) by go_num]
          exact ⟨⟨k + 1, (cy + lim xs k) / 4294967296, _, by omega, by go_num, by go_num, by omega, R.out⟩, by simp [intOf]; omega⟩
      . have Z1 := hI (zF h (k := k) (by omega))
        rw [Z1.out, Nat.add_zero] at R
        by_cases k2 : k < n'
        . omega
        . have Z2 := hI (zF h' (k := k) (by omega))
          rw [Z2.out, Nat.add_zero] at R
          rw [show cy % 4294967296 = cy by omega] at R
          go_wp2
          exact ⟨⟨k + 1, cy / 4294967296, _, by omega, by go_num, by go_num, by omega, R.out⟩, by simp [intOf]; omega⟩
    . obtain rfl : k = n + 1 := by omega
      have Hz := hI Hrw.out.lt
      have hsl := Hrw.out.sl (B := wr.heap.size) (n := n + 1) (c := n + 1) Hrw.out.lt 0 (by rw [Hlen.out]; omega) (Nat.le_refl _) (by omega) Hok.out
      rw [List.drop_zero, List.take_of_length_le (by rw [Hlen.out]; omega)] at hsl
      go_wp2_with fail
      refine (zD4 _ _ _ _ zr wr hsl).mono ?_
      rintro e w3 ⟨⟨k, hk, rfl, hnz, hv⟩, rfl⟩
      have HV := hI hv
      clear hv
      go_wp2
      go_ret
      exact ⟨_, _, _, _, rfl, hsl.to hk, hnz, by rw [HV.out, <- zF7 zr (show zr.length <= n + 1 by rw [Hlen.out]; omega)]; exact He.out _ _ Hval.out, Hb.out⟩
end Go.Proofs.YtphinlongdoedaaGreat
