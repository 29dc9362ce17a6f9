/-
  The walk of divLong.
-/
import Derived.Test.YtalgcppogjpilaaTakeD
import Derived.Test.YtalgcppogjpilaaShl
import Derived.Test.YtalgcppogjpilaaDivMag
namespace Go.Proofs.Ytalgcppogjpilaa
open Go.RowKit

/-- The divisor, its highest bit set, keeps its limbs. -/
theorem norm_len {xs ds : List Nat} {m s : Nat} (hx : Ok xs) (nx : Nz xs) (hl : xs.length = m + 1) (hd : Ok ds) (nd : Nz ds) (hs : s + nbits (lim xs m) = 32) (hv : val ds = val xs * 2 ^ s) : ds.length = m + 1 := by
  have hb := nbits_val hx nx hl
  have h0 : val xs ≠ 0 := by have := val_pos nx (by rintro rfl; simp at hl); omega
  have a := nbits_lt (val xs)
  have b := nbits_ge h0
  have p := nbits_pos h0
  have e : ∀ k, (4294967296 : Nat) ^ k = 2 ^ (32 * k) := fun k => by rw [show (4294967296 : Nat) = 2 ^ 32 by decide, ← Nat.pow_mul]
  have up : val ds < 4294967296 ^ (m + 1) := by
    rw [hv, e, show 32 * (m + 1) = nbits (val xs) + s by omega, Nat.pow_add]
    exact Nat.mul_lt_mul_of_pos_right a (Nat.pow_pos (by decide))
  have lo : 4294967296 ^ m ≤ val ds := by
    rw [hv, e]
    refine Nat.le_trans (Nat.pow_le_pow_right (by decide) (show 32 * m ≤ (nbits (val xs) - 1) + s by omega)) ?_
    rw [Nat.pow_add]
    exact Nat.mul_le_mul_right _ b
  have h1 := length_le nd up
  rcases Nat.lt_or_ge ds.length (m + 1) with h2 | h2
  · exfalso
    have c := val_lt hd
    have d : (4294967296 : Nat) ^ ds.length ≤ 4294967296 ^ m := Nat.pow_le_pow_right (by decide) (by omega)
    omega
  · omega

theorem val_split (zs : List Nat) (j k r : Nat) (h : zs.length = j + (k + r)) : val zs = wv zs 0 j + 4294967296 ^ j * (wv zs j k + 4294967296 ^ k * wv zs (j + k) r) := by
  rw [← wv_all zs (k := j + (k + r)) (by omega), wv_add, Nat.zero_add, wv_add]
theorem val_set0 {qs : List Nat} {j q : Nat} (hj : j < qs.length) (h0 : lim qs j = 0) : val (qs.set j q) = val qs + 4294967296 ^ j * q := by
  have a := val_split qs j 1 (qs.length - j - 1) (by omega)
  have b := val_split (qs.set j q) j 1 (qs.length - j - 1) (by rw [List.length_set]; omega)
  have e1 : wv (qs.set j q) 0 j = wv qs 0 j := wv_set_past (by omega)
  have e2 : wv (qs.set j q) j 1 = q := by simp only [wv, Nat.pow_zero, Nat.one_mul, Nat.zero_add, Nat.add_zero]; exact lim_set_eq hj
  have e3 : wv (qs.set j q) (j + 1) (qs.length - j - 1) = wv qs (j + 1) (qs.length - j - 1) := wv_congr fun i _ => lim_set_ne (by omega)
  have e4 : wv qs j 1 = 0 := by simp only [wv, Nat.pow_zero, Nat.one_mul, Nat.zero_add, Nat.add_zero]; exact h0
  rw [b, a, e1, e2, e3, e4, Nat.zero_add, Nat.mul_add]
  omega

/-- The window that a digit is taken of. -/
theorem dl_window {zr : List Nat} {n j r D : Nat} (hl : zr.length = j + ((n + 1) + r)) (hb : val zr < D * 4294967296 ^ (j + 1)) : wv zr j (n + 1) < D * 4294967296 := by
  rw [val_split zr j (n + 1) r hl, show D * 4294967296 ^ (j + 1) = 4294967296 ^ j * (D * 4294967296) by rw [Nat.pow_succ, Nat.mul_left_comm]] at hb
  refine Nat.lt_of_mul_lt_mul_left (a := 4294967296 ^ j) (Nat.lt_of_le_of_lt ?_ hb)
  rw [Nat.mul_add]
  omega

theorem dl_step {zr zs' qr : List Nat} {n j r D U0 q : Nat} (hl : zr.length = j + ((n + 1) + r)) (hD : D < 4294967296 ^ n) (hD0 : 0 < D) (hs : Same zr zs' j (j + (n + 1))) (hq : wv zr j (n + 1) / D = q) (hr : wv zs' j (n + 1) = wv zr j (n + 1) % D) (hz : Ok zs')
    (hv : val zr + D * val qr = U0) (hb : val zr < D * 4294967296 ^ (j + 1)) (hj : j < qr.length) (h0 : ∀ i, i < j + 1 → lim qr i = 0) :
    val zs' + D * val (qr.set j q) = U0 ∧ val zs' < D * 4294967296 ^ j ∧ (∀ i, i < j → lim (qr.set j q) i = 0) := by
  have a := val_split zr j (n + 1) r hl
  have b := val_split zs' j (n + 1) r (by rw [hs.1]; exact hl)
  have e1 : wv zs' 0 j = wv zr 0 j := hs.wv_past (.inl (by omega))
  have e2 : wv zs' (j + (n + 1)) r = wv zr (j + (n + 1)) r := hs.wv_past (.inr (Nat.le_refl _))
  have dm := Nat.div_add_mod (wv zr j (n + 1)) D
  have ml := Nat.mod_lt (wv zr j (n + 1)) hD0
  have rest : wv zr (j + (n + 1)) r = 0 := by
    rcases Nat.eq_zero_or_pos (wv zr (j + (n + 1)) r) with e | e
    · exact e
    · exfalso
      have c1 : 4294967296 ^ j * (4294967296 ^ (n + 1) * 1) ≤ val zr := by
        rw [a]
        refine Nat.le_trans (Nat.mul_le_mul_left _ (Nat.le_trans (Nat.mul_le_mul_left _ e) (Nat.le_add_left _ _))) (Nat.le_add_left _ _)
      have c2 : D * 4294967296 ^ (j + 1) ≤ 4294967296 ^ n * 4294967296 ^ (j + 1) := Nat.mul_le_mul_right _ (Nat.le_of_lt hD)
      have c3 : 4294967296 ^ n * 4294967296 ^ (j + 1) = 4294967296 ^ j * (4294967296 ^ (n + 1) * 1) := by
        rw [Nat.mul_one, ← Nat.pow_add, ← Nat.pow_add]; congr 1; omega
      omega
  rw [rest, Nat.mul_zero, Nat.add_zero] at a
  rw [e1, e2, hr, rest, Nat.mul_zero, Nat.add_zero] at b
  have w1 := wv_lt hz 0 j
  rw [e1] at w1
  rw [hq] at dm
  generalize wv zr j (n + 1) % D = R at *
  generalize wv zr j (n + 1) = U at *
  refine ⟨?_, ?_, fun i hi => ?_⟩
  · rw [val_set0 hj (h0 j (by omega)), Nat.mul_add, b, ← hv, a, ← dm, Nat.mul_add, Nat.mul_left_comm D]
    omega
  · rw [b, Nat.mul_comm D]
    have : 4294967296 ^ j * (R + 1) ≤ 4294967296 ^ j * D := Nat.mul_le_mul_left _ ml
    rw [Nat.mul_add, Nat.mul_one] at this
    omega
  · rw [lim_set_ne (by omega)]; exact h0 i (by omega)

/-- At the start no digit has been taken. -/
theorem dl_start {a b s N n : Nat} (ha : a < 4294967296 ^ N) (hb : 4294967296 ^ (n - 1) ≤ b) (hn : 0 < n) (hN : n ≤ N) : a * 2 ^ s < b * 2 ^ s * 4294967296 ^ (N - n + 1) := by
  have h1 : 4294967296 ^ N ≤ b * 4294967296 ^ (N - n + 1) := by
    refine Nat.le_trans (Nat.le_of_eq ?_) (Nat.mul_le_mul_right _ hb)
    rw [← Nat.pow_add]; congr 1; omega
  rw [Nat.mul_right_comm]
  exact Nat.mul_lt_mul_of_pos_right (Nat.lt_of_lt_of_le ha h1) (Nat.pow_pos (by decide))
/-- In the end the quotient and the remainder stand there. -/
theorem dl_end {a b s Q R : Nat} (h : R + b * 2 ^ s * Q = a * 2 ^ s) (hR : R < b * 2 ^ s) : a / b = Q ∧ R / 2 ^ s = a % b := by
  have hp : 0 < 2 ^ s := Nat.pow_pos (by decide)
  have e1 : a * 2 ^ s / (b * 2 ^ s) = Q ∧ a * 2 ^ s % (b * 2 ^ s) = R := by
    have := knuth_div (U := a * 2 ^ s) (V := b * 2 ^ s) (q := Q) (R := R) (by rw [Nat.mul_comm Q]; exact h) hR
    exact this
  rw [Nat.mul_div_mul_right _ _ hp, Nat.mul_mod_mul_right] at e1
  exact ⟨e1.1, by rw [← e1.2, Nat.mul_div_cancel _ hp]⟩

theorem fresh_below (w : World) (o : Obj) : Below w.heap.size w (w.alloc o) := (Below.refl _ _).alloc (Nat.le_refl _) _

/-- What stands when J digits are still to be taken. -/
structure Dl (w wr : World) (g g' Bd : Nat) (Ad : Option Addr) (n cd : Nat) (ds : List Nat) (N L U0 D J : Nat) (zr qr : List Nat) : Prop where
  lz : zr.length = N + 1
  rz : Row wr g zr
  oz : Ok zr
  lq : qr.length = L
  rq : Row wr g' qr
  oq : Ok qr
  low : ∀ i, i < J → lim qr i = 0
  sum : val zr + D * val qr = U0
  lt : val zr < D * 4294967296 ^ J
  sl : Sl wr Bd Ad n cd ds
  bel : Below w.heap.size w wr

set_option maxRecDepth 20000 in
set_option maxHeartbeats 4000000 in
theorem divLong_any (A A' : Option Addr) (N c m n c' : Nat) (xs ys : List Nat) (w : World) (hn : n = m + 2) (h : Sl w w.heap.size A N c xs) (h' : Sl w w.heap.size A' n c' ys) (hy : Nz ys) (hN : n ≤ N) (hN9 : N ≤ 1000000) :
    Calls Try.prog 89 #[.slice A N c, .slice A' n c'] w (RetNum2 (val xs / val ys) (val xs % val ys) w) := by
  have hcap' := h'.cap
  have hcr' := h'.capr
  have hlx := h.len
  have hly := h'.len
  have ht := h'.ok.lim (m + 1)
  have hyne : ys ≠ [] := by rintro rfl; simp at hly; omega
  have ht0 : lim ys (m + 1) ≠ 0 := by
    have := (nz_iff hyne).1 hy
    rwa [hly, show n - 1 = m + 1 by omega] at this
  have hb1 := nbits_limb ht
  have hb2 := nbits_pos ht0
  obtain ⟨s, hs⟩ : ∃ s, s + nbits (lim ys (m + 1)) = 32 := ⟨32 - nbits (lim ys (m + 1)), by omega⟩
  have hs31 : s < 32 := by omega
  have Hwd := Lib.hid (nbits_word (lim ys (m + 1)) (by omega))
  obtain ⟨ad, rfl, hadb, y1⟩ := h'.cell (k := m + 1) (by omega)
  have Hs := Lib.hid hs
  have HM := Lib.hid (And.intro hlx (And.intro hly hn))
  have i1 : (n : Int) - 1 = ((m + 1 : Nat) : Int) := by omega
  obtain ⟨m1, hm1⟩ : ∃ m1, m1 = m + 1 := ⟨_, rfl⟩
  rw [← hm1] at y1 i1 ht Hwd
  have Hm1 := Lib.hid hm1
  have i2 : (m1 : Int) < (n : Int) := by omega
  clear hlx hly hs hn hm1 ht0 hb1 hb2
  go_enter Try.func89, Try.ntmps89
  go_wp2_with fail
  refine (Try.bits_LeadingZeros32 _ _ (by omega) (by omega)).mono ?_
  rintro e w' ⟨rfl, rfl⟩
  rw [show ((lim ys m1 : Nat) : Int).toNat = lim ys m1 by omega, Hwd.out, show (32 : Int) - (nbits (lim ys m1) : Int) = (s : Int) by rw [Hm1.out]; have := Hs.out; omega]
  clear y1
  have hl0 : (s : Int) / 32 = ((0 : Nat) : Int) := by omega
  have hl1 : (s : Int) % 32 = (s : Int) := by omega
  have HL := Lib.hid (And.intro hl0 hl1)
  clear hl0 hl1
  have hn9 : n ≤ 1000000 := by omega
  go_wp2_with fail
  refine (shiftLeft_any (some ad) n c' s 0 s ys w' h' hn9 (by omega) HL.out.1 HL.out.2).mono ?_
  rintro e w1 ⟨A1, n1, c1, ds, rfl, hsd, hxd, hvd, hbn1⟩
  have hnl : n1 = n := by
    have := norm_len h'.ok hy (m := m + 1) (by rw [HM.out.2.1]; exact HM.out.2.2) hsd.ok hxd Hs.out hvd
    rw [hsd.len] at this
    rw [this]; exact HM.out.2.2.symm
  subst hnl
  have HD := Lib.hid (And.intro hvd hxd)
  clear hvd hxd
  have hsx := h.on hbn1
  have hmk := make_any ((N : Int) + 1) (N + 1) (by omega) (by omega)
  have Hr0 := Lib.hid (Row.made w1 (N + 1))
  have hb2 := fresh_below w1 (.cells (zrow (N + 1)) 51)
  have hsx2 := hsx.on hb2
  have hsd2 := hsd.alloc (Nat.le_refl _) (.cells (zrow (N + 1)) 51)
  have HB2 := Lib.hid (below_chain hbn1 hbn1.size hb2)
  clear hb2 hsx
  go_wp2_with fail
  refine (shiftLeft_any A N c s 0 s xs _ hsx2 hN9 (by omega) HL.out.1 HL.out.2).mono ?_
  rintro e w2 ⟨A2, n2, c2, us', rfl, hsu, hxu, hvu, hbn2⟩
  have hlen2 : us'.length ≤ N + 1 := by
    refine length_le hxu ?_
    rw [hvu, Nat.pow_succ]
    have a := val_lt h.ok
    rw [HM.out.1] at a
    have b : 2 ^ s ≤ 2 ^ 32 := Nat.pow_le_pow_right (by decide) (by omega)
    rw [show (2 : Nat) ^ 32 = 4294967296 by decide] at b
    exact Nat.lt_of_lt_of_le (Nat.mul_lt_mul_of_pos_right a (Nat.pow_pos (by decide))) (Nat.mul_le_mul_left _ b)
  have htk : us'.take (N + 1) = us' := List.take_of_length_le hlen2
  have E2 := Lib.hid (And.intro htk (And.intro hvu hlen2))
  have hg1 : w1.heap.size < (w1.alloc (.cells (zrow (N + 1)) 51)).heap.size := by simp
  have hr2 : Row w2 w1.heap.size (List.replicate (N + 1) 0) := Hr0.out.below hbn2 hg1
  have hsd3 := hsd2.below (hbn2.mono (Nat.le_of_lt hg1))
  have HB3 := Lib.hid (below_chain HB2.out (by have := HB2.out.size; omega) hbn2)
  have hz2 := hr2.lt
  clear htk hvu hlen2 hbn2 hsd2 hsx2 hg1
  obtain ⟨L, hL⟩ : ∃ L, L + n1 = N + 1 := ⟨N + 1 - n1, by omega⟩
  have i3 : (N : Int) - (n1 : Int) + 1 = (L : Int) := by omega
  have hmk2 := make_any (L : Int) L rfl (by omega)
  have HLL := Lib.hid hL
  clear hL
  go_wp2_with (with_reducible refine copy_us rfl (.tmp 26) (.tmp 29) rfl w1.heap.size 0 (N + 1) (N + 1) n2 c2 w2.heap.size A2 us' _ rfl rfl hr2 hsu (by rw [List.length_replicate]; omega) ?_; intro w3 hw hb3)
  rw [E2.out.1] at hw
  have Hr3 := Lib.hid hw
  have hz3 := hw.lt
  have Hsd3 := Lib.hid (hsd3.below (hb3.mono (Nat.le_refl _)))
  have HB4 := Lib.hid (HB3.out.trans (hb3.mono hbn1.size))
  clear hw hb3 hr2 hsd3
  go_wp2
  have Hq0 := Lib.hid (Row.made w3 L)
  have HB5 := Lib.hid (HB4.out.alloc (by have := HB4.out.size; omega) (.cells (zrow L) 51))
  have Hne : w1.heap.size ≠ w3.heap.size := by omega
  have hDp : 0 < val ds := by
    rw [HD.out.1]
    exact Nat.mul_pos (val_pos hy hyne) (Nat.pow_pos (by decide))
  have HDlt := Lib.hid (show val ds < 4294967296 ^ n1 by have := val_lt hsd.ok; rwa [hsd.len] at this)
  have HB6 : w'.heap.size ≤ w1.heap.size := hbn1.size
  go_loopw [11, 40] (fun _ iv wr => ∃ (k J : Nat) (zr qr : List Nat), k + J = L ∧ iv = .int .i64 k ∧ Hid (Dl w' wr w1.heap.size w3.heap.size w1.heap.size A1 n1 c1 ds N L (val xs * 2 ^ s) (val ds) J zr qr)) (fun _ iv _ => L - (intOf iv).toNat)
  case atStart =>
    refine ⟨0, L, _, _, by omega, rfl, ⟨?_, Hr3.out.alloc _, (ok_zeros _).over hsu.ok _, List.length_replicate, Hq0.out, ok_zeros _, fun i _ => lim_zeros _ _, ?_, ?_, Hsd3.out.alloc (by omega) _, HB5.out⟩⟩
    · rw [over_length (by rw [List.length_replicate]; have := E2.out.2.2; omega), List.length_replicate]
    · rw [val_zeros, Nat.mul_zero, Nat.add_zero, ← wv_all _ (k := N + 1) (by rw [over_length (by rw [List.length_replicate]; have := E2.out.2.2; omega), List.length_replicate]; exact Nat.le_refl _), wv_over_zeros E2.out.2.2, E2.out.2.1]
    · rw [← wv_all _ (k := N + 1) (by rw [over_length (by rw [List.length_replicate]; have := E2.out.2.2; omega), List.length_replicate]; exact Nat.le_refl _), wv_over_zeros E2.out.2.2, E2.out.2.1, HD.out.1]
      have a := val_lt h.ok
      rw [HM.out.1] at a
      have b := val_ge hy hyne
      rw [HM.out.2.1] at b
      have := dl_start (s := s) a b (by have := HM.out.2.2; omega) hN
      rwa [show N - n1 + 1 = L by have := HLL.out; omega] at this
  case round =>
    obtain ⟨k, J, zr, qr, hkJ, rfl, HDl⟩ := hrel
    by_cases hkL : k < L
    · obtain ⟨j, rfl⟩ : ∃ j, J = j + 1 := ⟨J - 1, by omega⟩
      have i4 : (L : Int) - 1 - (k : Int) = (j : Int) := by omega
      have i5 : (j : Int) ≤ (j : Int) + (n1 : Int) + 1 := by omega
      have i6 : (j : Int) + (n1 : Int) + 1 ≤ (N : Int) + 1 := by have := HLL.out; omega
      have i7 : ((j : Int) + (n1 : Int) + 1).toNat = j + n1 + 1 := by omega
      have i8 : (j : Int) < (L : Int) := by omega
      have i9 : (0 : Int) ≤ (j : Int) := by omega
      have hne : ¬ N + 1 = j := by have := HLL.out; omega
      have HkJ := Lib.hid hkJ
      clear hkJ
      have Hwin := Lib.hid (dl_window (n := n1) (r := N - j - n1) (by rw [HDl.out.lz]; have := HLL.out; have := HkJ.out; omega) HDl.out.lt)
      go_wp2_with fail
      refine (takeDigit_raw w1.heap.size j _ w1.heap.size m m1 n1 _ _ _ zr ds wr Hm1.out HM.out.2.2 (by have := HM.out.2.2; omega) HDl.out.rz (by rw [HDl.out.lz]; have := HLL.out; have := HkJ.out; omega) HDl.out.oz (by have := HLL.out; have := HkJ.out; omega) HDl.out.sl (Nat.le_refl _) HD.out.2 (by rw [show j + n1 + 1 - j = n1 + 1 by omega]; exact Hwin.out)).mono ?_
      rintro e w4 ⟨zs', q, rfl, hq, hq9, hr4, ho4, hs4, hv4, hg4⟩
      rw [show j + n1 + 1 - j = n1 + 1 by omega] at hq hs4 hv4
      have HX := Lib.hid (And.intro hq (And.intro hs4 hv4))
      clear hq hs4 hv4
      have hq4 : Row w4 w3.heap.size qr := HDl.out.rq.grown hg4 (by simpa using Hne.symm)
      have c1 := hq4.cell (i := j) (by rw [HDl.out.lq]; have := HkJ.out; omega)
      have f1 := hq4.free j
      go_wp2
      have st := dl_step (n := n1) (r := N - j - n1) (by rw [HDl.out.lz]; have := HLL.out; have := HkJ.out; omega) HDlt.out hDp HX.out.2.1 HX.out.1 HX.out.2.2 ho4 HDl.out.sum HDl.out.lt (by rw [HDl.out.lq]; have := HkJ.out; omega) HDl.out.low
      have hz4 := hr4.lt
      have hzw := HDl.out.rz.lt
      refine ⟨⟨k + 1, j, zs', qr.set j q, by have := HkJ.out; omega, by go_num, ?_⟩, by simp [intOf]; omega⟩
      exact ⟨by rw [HX.out.2.1.1]; exact HDl.out.lz, hr4.far Hne _, ho4, by rw [List.length_set]; exact HDl.out.lq, hq4.set j q, HDl.out.oq.set j hq9, st.2.2, st.1, st.2.1, (HDl.out.sl.grown hg4 (Nat.le_of_lt hzw) (Nat.le_refl _)).setCell (by simp; omega) _, (below_grown HDl.out.bel hg4 HB6 (by omega)).setCell (by simp; omega) _⟩
    · obtain rfl : J = 0 := by omega
      have hR := HDl.out.lt
      rw [Nat.pow_zero, Nat.mul_one] at hR
      have hsum := HDl.out.sum
      rw [HD.out.1] at hR hsum
      have HE := Lib.hid (dl_end hsum hR)
      clear hR hsum
      have hz1 := HDl.out.rz.lt
      have hz2 := HDl.out.rq.lt
      have hsq := HDl.out.rq.sl (B := wr.heap.size) (n := L) (c := L) hz2 0 (by rw [HDl.out.lq]; omega) (Nat.le_refl _) (by omega) HDl.out.oq
      rw [List.drop_zero, List.take_of_length_le (by rw [HDl.out.lq]; omega)] at hsq
      have hsz := HDl.out.rz.sl (B := wr.heap.size) (n := N + 1) (c := N + 1) hz1 0 (by rw [HDl.out.lz]; omega) (Nat.le_refl _) (by omega) HDl.out.oz
      rw [List.drop_zero, List.take_of_length_le (by rw [HDl.out.lz]; omega)] at hsz
      go_wp2_with fail
      refine (trim_any _ _ _ _ qr wr hsq).mono ?_
      rintro e w5 ⟨⟨j1, hj1, rfl, hnz1, hv1⟩, rfl⟩
      have HV1 := Lib.hid hv1
      clear hv1
      go_wp2_with fail
      refine (trim_any _ _ _ _ zr wr hsz).mono ?_
      rintro e w5 ⟨⟨j2, hj2, rfl, hnz2, hv2⟩, rfl⟩
      have HV2 := Lib.hid hv2
      clear hv2
      go_wp2_with fail
      refine (shiftRight_any _ j2 _ s 0 s (zr.take j2) wr (hsz.to hj2) (by omega) HL.out.1 HL.out.2).mono ?_
      rintro e w6 ⟨A6, n6, c6, xs6, rfl, hs6, hx6, hv6, hbn6⟩
      have HV6 := Lib.hid hv6
      clear hv6
      go_wp2
      go_ret2
      exact ⟨_, _, _, _, A6, n6, c6, xs6, rfl, (hsq.to hj1).on hbn6, hnz1, by rw [HV1.out, HE.out.1], hs6, hx6, by rw [HV6.out, HV2.out, HE.out.2], below_chain HDl.out.bel HDl.out.bel.size hbn6⟩

set_option maxHeartbeats 1000000 in
theorem divMag_long (xs ys : List Nat) (hx : Nz xs) (hy : Nz ys) (ox : Ok xs) (hle : val ys ≤ val xs) (h2 : 2 ≤ ys.length) (h9 : xs.length ≤ 1000000) : DivSpec xs ys := by
  intro A A' n c n' c' w h h'
  have hnn : n' ≤ n := by
    rcases Nat.lt_or_ge n n' with hlt | hge
    · have := val_lt_of_length ox hy (by rw [h.len, h'.len]; exact hlt)
      omega
    · exact hge
  have hm : n' = (n' - 2) + 2 := by have := h'.len; omega
  have hn9 : n ≤ 1000000 := by have := h.len; omega
  have Hm := Lib.hid hm
  clear hm
  have hc : 0 ≤ cmpv (val xs) (val ys) := by
    rcases Nat.lt_or_ge (val ys) (val xs) with h1 | h1
    · rw [cmpv_gt h1]; omega
    · have e : val xs = val ys := by omega
      rw [e, cmpv_eq]; omega
  have i1 : ((n' : Int) == 1) = false := by rw [beq_eq_false_iff_ne]; have := Hm.out; omega
  clear hle h2
  go_enter Try.func63, Try.ntmps63
  go_wp2_with fail
  refine (cmpMag_any _ _ _ _ _ _ _ _ xs ys _ h h' hx hy).mono ?_
  rintro e w0 ⟨rfl, q, rfl⟩
  generalize cmpv (val xs) (val ys) = cv at *
  have hs : Sl (w.drewN q) (w.drewN q).heap.size A n c xs := h.drewN q
  have hs' : Sl (w.drewN q) (w.drewN q).heap.size A' n' c' ys := h'.drewN q
  go_wp2_with fail
  refine (divLong_any A A' n c (n' - 2) n' c' xs ys _ Hm.out hs hs' hy hnn hn9).mono ?_
  rintro e w1 ⟨A1, n1, c1, xs1, A2, n2, c2, xs2, rfl, h1, k1, v1, h3, k3, v3, hb⟩
  have hb2 := below_undrewN hb
  have HV := Lib.hid (And.intro v1 v3)
  clear v1 v3 hb
  go_wp2
  go_ret2
  exact ⟨A1, n1, c1, xs1, A2, n2, c2, xs2, rfl, h1, k1, HV.out.1, h3, k3, HV.out.2, hb2⟩

/-- divMag divides any two magnitudes, the second not 0. -/
theorem divSpec_all (xs ys : List Nat) (hx : Nz xs) (hy : Nz ys) (ox : Ok xs) (h0 : ys ≠ []) (h9 : xs.length ≤ 1000000) : DivSpec xs ys := by
  rcases Nat.lt_or_ge (val xs) (val ys) with h1 | h1
  · exact divMag_less xs ys hx hy h1
  · have hp := List.length_pos_iff.2 h0
    by_cases h2 : ys.length = 1
    · exact divMag_one xs ys hx hy h1 h2
    · exact divMag_long xs ys hx hy ox h1 (by omega) h9

end Go.Proofs.Ytalgcppogjpilaa
