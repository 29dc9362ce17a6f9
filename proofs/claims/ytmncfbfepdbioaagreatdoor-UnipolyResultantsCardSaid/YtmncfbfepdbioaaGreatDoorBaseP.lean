/-
 Written by mkbase.py: Div, DivMag, DivMod, Gcd, Shr, ShiftR. Stage 2: the reference's Ints, where both numbers are the same. Written by mkbase.py: Ref.
-/
import Derived.Test.YtmncfbfepdbioaaGreatDoorBaseA
set_option maxHeartbeats 2000000
namespace Go.Proofs.YtmncfbfepdbioaaGreatDoor
open Go.RowKit
theorem or_shift (r t : Nat) (ht : t < 4294967296) (hr : r < 4294967296) : bits .or .u64 ((r : Int) * 4294967296) (t : Int) = ((4294967296 * r + t : Nat) : Int) := by
 have e := Nat.two_pow_add_eq_or_of_lt (i := 32) (b := t) (by omega) r
 have h := u64_or_nat (4294967296 * r) t (by omega) (by omega)
 rw [show ((r : Int) * 4294967296) = ((4294967296 * r : Nat) : Int) by omega, h]
 rw [show (2 : Nat) ^ 32 = 4294967296 by decide] at e
 rw [e]
theorem or_shift' (v t : Nat) (hv : v < 4294967296) (ht : t < 4294967296) : bits .or .u64 (v : Int) ((t : Int) * 4294967296) = ((v + 4294967296 * t : Nat) : Int) := by
 have e := Nat.two_pow_add_eq_or_of_lt (i := 32) (b := v) (by omega) t
 have h := u64_or_nat v (4294967296 * t) (by omega) (by omega)
 rw [show ((t : Int) * 4294967296) = ((4294967296 * t : Nat) : Int) by omega, h]
 rw [show (2 : Nat) ^ 32 = 4294967296 by decide] at e
 rw [Nat.or_comm, <- e, Nat.add_comm]
theorem or_zero (t : Nat) (ht : t < 4294967296) : bits .or .u64 ((0 : Nat) : Int) (t : Int) = (t : Int) := by
 rw [u64_or_nat 0 t (by omega) (by omega), Nat.zero_or]
theorem word_step (k v t : Nat) (hk : k <= 1) (hv : v < 4294967296 ^ k) (ht : t < 4294967296) : bits .or .u64 (v : Int) (IntKind.u64.wrap ((t : Int) * 2 ^ (32 * k))) = ((v + 4294967296 ^ k * t : Nat) : Int) := by
 rw [IntKind.wrap_u64]
 rcases k with _ | k
 . obtain rfl : v = 0 := by simpa using hv
   rw [show ((t : Int) * 2 ^ (32 * 0)) % 18446744073709551616 = (t : Int) by simp; omega, or_zero t ht]; simp
 . obtain rfl : k = 0 := by omega
   rw [show ((t : Int) * 2 ^ (32 * (0 + 1))) % 18446744073709551616 = (t : Int) * 4294967296 by simp; omega, or_shift' v t (by simpa using hv) ht]
theorem wordOf_any (A : Option Addr) (n c B : Nat) (xs : List Nat) (w : World) (h : Sl w B A n c xs) (hn : n <= 2) :
 Calls Tryz.prog 173 #[.slice A n c] w fun e w' => e = .returned (.int .u64 (val xs : Nat)) /\ w = w' := by
 have hcap := h.cap
 have hreach := h.reach
 have hcr := h.capr
 have Hv := Lib.hid (sl_val h (k := n) (Nat.le_refl _))
 go_enter Tryz.func173, Tryz.ntmps173
 go_wp2
 go_loop [3, 7] (fun v i => ∃ k : Nat, k <= n /\ i = .int .i64 k /\ v = .int .u64 (val (xs.take k) : Nat)) (fun _ i => n - (intOf i).toNat)
 case atStart => exact ⟨0, by omega, rfl, rfl⟩
 case round =>
  obtain ⟨k, hk, rfl, rfl⟩ := hrel
  by_cases hkn : k < n
  . have hx := h.ok.lim k
    have hs := val_take_succ xs k
    have Hs := Lib.hid hs
    clear hs
    obtain ⟨ad, rfl, _, hc1⟩ := h.cell hkn
    have hv := Lib.hid (val_take_succ xs k)
    have hk1 : k <= 1 := by omega
    obtain ⟨v, Hvk⟩ : ∃ v, Hid (val (xs.take k) = v) := ⟨_, rfl⟩
    have Hlt : v < 4294967296 ^ k := by
     have := val_lt (h.ok.take k)
     rw [List.length_take, h.len, Nat.min_eq_left hk, Hvk.out] at this
     exact this
    have HLT := Lib.hid Hlt
    clear Hlt
    rw [Hvk.out]
    go_wp2
    rw [word_step k v _ hk1 HLT.out hx]
    exact ⟨⟨k + 1, by omega, by go_num, by rw [hv.out, Hvk.out]⟩, by simp [intOf]; omega⟩
  . obtain rfl : k = n := by omega
    rw [Hv.out]
    go_wp2
    go_ret
    exact ⟨rfl, rfl⟩
theorem tdiv_cast (a b : Nat) : ((a : Int).tdiv (b : Int)) = ((a / b : Nat) : Int) := (Int.ofNat_tdiv a b).symm
theorem tmod_cast (a b : Nat) : ((a : Int).tmod (b : Int)) = ((a % b : Nat) : Int) := (Int.ofNat_tmod a b).symm
theorem wrap_small {q : Nat} (h : q < 4294967296) : IntKind.u64.wrap (q : Int) % 4294967296 = (q : Int) := by rw [IntKind.wrap_u64]; omega
theorem divLimb_rel {w wr : World} {zs zr : List Nat} {g off n k j d r : Nat} (hkn : k < n) (hj : n - 1 - k = j) (hrd : r < d) (hlt : off + j < zr.length) (Hrow : Hid (Row wr g zr)) (Hok : Hid (Ok zr))
 (Hsame : Hid (Same zs zr (off + (n - k)) (off + n))) (Hval : Hid (wv zs (off + (n - k)) k = d * wv zr (off + (n - k)) k + r)) (Hgr : Hid (w.grownBy wr (some g))) (q : Nat) (hq : q = (4294967296 * r + lim zr (off + j)) / d) :
 q < 4294967296 /\ Hid (Row (wr.setCell ⟨g, off + j, none⟩ (.int .u32 (q : Int))) g (zr.set (off + j) q)) /\ Hid (Ok (zr.set (off + j) q)) ∧
 Hid (Same zs (zr.set (off + j) q) (off + (n - (k + 1))) (off + n)) ∧
 Hid (wv zs (off + (n - (k + 1))) (k + 1) = d * wv (zr.set (off + j) q) (off + (n - (k + 1))) (k + 1) + (4294967296 * r + lim zr (off + j)) % d) ∧
 Hid (w.grownBy (wr.setCell ⟨g, off + j, none⟩ (.int .u32 (q : Int))) (some g)) := by
 have ht := Hok.out.lim (off + j)
 have hq1 : q < 4294967296 := by
  rw [hq]
  refine Nat.div_lt_of_lt_mul ?_
  have : 4294967296 * r + 4294967296 <= d * 4294967296 := by
   rw [Nat.mul_comm d, <- Nat.mul_succ]; exact Nat.mul_le_mul (Nat.le_refl _) hrd
  omega
 have e1 : n - (k + 1) = j := by omega
 have e2 : n - k = j + 1 := by omega
 refine ⟨hq1, Hrow.out.set _ _, Hok.out.set _ hq1, ?_, ?_, grown_set Hgr.out _ _⟩
 . rw [Hid, e1]
   have := Hsame.out
   rw [e2] at this
   exact (this.mono (by omega) (Nat.le_refl _)).set (Nat.le_refl _) (by omega) _
 . have h := Hval.out
   rw [e2] at h
   rw [Hid, e1]
   have a := wv_add zs (off + j) 1 k
   have b := wv_add (zr.set (off + j) q) (off + j) 1 k
   rw [Nat.add_comm 1 k] at a b
   have z1 : wv zs (off + j) 1 = lim zs (off + j) := by simp [wv]
   have z2 : wv (zr.set (off + j) q) (off + j) 1 = q := by simp only [wv, Nat.pow_zero, Nat.one_mul, Nat.zero_add, Nat.add_zero]; exact lim_set_eq hlt
   have z3 : wv (zr.set (off + j) q) (off + j + 1) k = wv zr (off + j + 1) k := wv_congr fun i _ => lim_set_ne (by omega)
   have z4 := Hsame.out.2 (off + j) (.inl (by omega))
   rw [Nat.add_assoc off j 1] at a b z3
   rw [a, b, z1, z2, z3, h, Nat.pow_one, <- z4]
   have dm := Nat.div_add_mod (4294967296 * r + lim zr (off + j)) d
   rw [<- hq] at dm
   rw [Nat.mul_add, Nat.mul_add, <- Nat.mul_assoc, <- Nat.mul_assoc, Nat.mul_comm d 4294967296]
   omega
theorem divLimb_any (g off n c d : Nat) (zs : List Nat) (w : World) (hr : Row w g zs) (hoff : off + n <= zs.length) (hz : Ok zs) (hl : off + n <= 35184372088832) (hd : 0 < d) (hd' : d < 4294967296) :
 Calls Tryz.prog 174 #[.slice (some ⟨g, off, none⟩) n c, .int .u32 (d : Int)] w fun e w' => ∃ zs' r, e = .returned (.int .u32 (r : Nat)) /\ r < d /\ Row w' g zs' /\ Ok zs' /\ Same zs zs' off (off + n) ∧
  wv zs off n = d * wv zs' off n + r /\ w.grownBy w' (some g) := by
 go_enter Tryz.func174, Tryz.ntmps174
 go_wp2
 go_loopw [5, 10] (fun cv iv wr => ∃ (k r : Nat) (zr : List Nat), k <= n /\ iv = .int .i64 k /\ cv = .int .u64 r /\ r < d /\ Hid (Row wr g zr) /\ Hid (Ok zr) /\ Hid (Same zs zr (off + (n - k)) (off + n)) ∧
  Hid (wv zs (off + (n - k)) k = d * wv zr (off + (n - k)) k + r) /\ Hid (w.grownBy wr (some g))) (fun _ iv _ => n - (intOf iv).toNat)
 case atStart => exact ⟨0, 0, zs, by omega, rfl, rfl, hd, hr, hz, Same.refl _ _ _, rfl, World.grownBy.refl w _⟩
 case round =>
  obtain ⟨k, r, zr, hk, rfl, rfl, hrd, Hrow, Hok, Hsame, Hval, Hgr⟩ := hrel
  by_cases hkn : k < n
  . obtain ⟨j, hj⟩ : ∃ j, n - 1 - k = j := ⟨_, rfl⟩
    have i1 : (n : Int) - 1 - (k : Int) = (j : Int) := by omega
    have hjn : j < n := by omega
    have Hj := Lib.hid hj
    clear hj
    have hlt : off + j < zr.length := by have := Hsame.out.1; omega
    have hc1 := Hrow.out.cell hlt
    have hf1 := Hrow.out.free (off + j)
    have ht := Hok.out.lim (off + j)
    have R := Lib.hid (divLimb_rel hkn Hj.out hrd hlt Hrow Hok Hsame Hval Hgr _ rfl)
    go_wp2
    rw [or_shift r (lim zr (off + j)) ht (by omega), tdiv_cast, tmod_cast, wrap_small R.out.1]
    exact ⟨⟨k + 1, (4294967296 * r + lim zr (off + j)) % d, _, by omega, by go_num, rfl, Nat.mod_lt _ hd, R.out.2⟩, by simp [intOf]; omega⟩
  . obtain rfl : k = n := by omega
    have e := Hval.out
    rw [Nat.sub_self, Nat.add_zero] at e
    have e2 := Hsame.out
    rw [Nat.sub_self, Nat.add_zero] at e2
    have E := Lib.hid (And.intro e e2)
    clear e e2
    go_wp2
    go_ret
    exact ⟨zr, r, rfl, hrd, Hrow.out, Hok.out, E.out.2, E.out.1, Hgr.out⟩
end Go.Proofs.YtmncfbfepdbioaaGreatDoor
namespace Go.Proofs.YtmncfbfepdbioaaGreatDoor
open Go.RowKit
def RetNum2 (N M : Nat) (w : World) (e : Ending) (w' : World) : Prop := ∃ A n c xs A' n' c' ys, e = .returned (.tuple #[.slice A n c, .slice A' n' c']) /\ Sl w' w'.heap.size A n c xs /\ Nz xs /\ val xs = N ∧
 Sl w' w'.heap.size A' n' c' ys /\ Nz ys /\ val ys = M /\ Below w.heap.size w w'
def DivSpec (xs ys : List Nat) : Prop := ∀ (A A' : Option Addr) (n c n' c' : Nat) (w : World), Sl w w.heap.size A n c xs -> Sl w w.heap.size A' n' c' ys →
 Calls Tryz.prog 142 #[.slice A n c, .slice A' n' c'] w (RetNum2 (val xs / val ys) (val xs % val ys) w)
theorem divMag_less (xs ys : List Nat) (hx : Nz xs) (hy : Nz ys) (hlt : val xs < val ys) : DivSpec xs ys := by
 intro A A' n c n' c' w h h'
 rw [Nat.div_eq_of_lt hlt, Nat.mod_eq_of_lt hlt]
 have Hc := Lib.hid (show cmpv (val xs) (val ys) = -1 from cmpv_lt hlt)
 clear hlt
 have Hl := Lib.hid h.len
 have hreach := h.reach
 go_enter Tryz.func142, Tryz.ntmps142
 go_wp2_with fail
 refine (cmpMag_any _ _ _ _ _ _ _ _ xs ys _ h h' hx hy).mono ?_
 rintro e w0 ⟨rfl, q, rfl⟩
 rw [Hc.out]
 go_wp2_with fail
 have hs : Sl (w.drewN q) (w.drewN q).heap.size A n c xs := h.drewN q
 refine (clone_any _ _ _ _ xs _ hs (Nat.le_refl _)).mono ?_
 rintro e w1 ⟨rfl, hrow, hb1⟩
 have hb2 := below_undrewN hb1
 have hz : w.heap.size < w1.heap.size := hrow.lt
 have hsl := hrow.sl (B := w1.heap.size) (n := n) (c := n) hz 0 (by rw [Hl.out]; omega) (Nat.le_refl _) (by omega) h.ok
 rw [List.drop_zero, List.take_of_length_le (by rw [Hl.out]; omega)] at hsl
 have Hsl := Lib.hid hsl
 clear hsl hb1 hrow
 go_wp2
 go_ret2
 exact ⟨none, 0, 0, [], _, n, n, xs, rfl, Sl.nil _ _, Nz.nil, rfl, Hsl.out, hx, rfl, hb2⟩
theorem divMag_one (xs ys : List Nat) (hx : Nz xs) (hy : Nz ys) (hle : val ys <= val xs) (h1 : ys.length = 1) : DivSpec xs ys := by
 intro A A' n c n' c' w h h'
 obtain ⟨d, rfl⟩ : ∃ d, ys = [d] := by
  rcases ys with _ | ⟨d, _ | ⟨e, ys⟩⟩
  . cases h1
  . exact ⟨d, rfl⟩
  . simp at h1
 have hd : d < 4294967296 := h'.ok.head
 have hd0 : 0 < d := by
  rcases Nat.eq_zero_or_pos d with rfl | h
  . exact absurd rfl hy
  . exact h
 obtain rfl : 1 = n' := by have := h'.len; simpa using this
 have hval : val [d] = d := by simp [val]
 have Hval := Lib.hid hval
 clear h1
 have Hc := Lib.hid (show 0 <= cmpv (val xs) (val [d]) by
  rcases Nat.lt_or_ge (val [d]) (val xs) with h1 | h1
  . rw [cmpv_gt h1]; omega
  . have e : val xs = val [d] := by omega
    rw [e, cmpv_eq]; omega)
 clear hle hval
 have Hl := Lib.hid h.len
 have hreach := h.reach
 go_enter Tryz.func142, Tryz.ntmps142
 go_wp2_with fail
 refine (cmpMag_any _ _ _ _ _ _ _ _ xs [d] _ h h' hx hy).mono ?_
 rintro e w0 ⟨rfl, q, rfl⟩
 have hc := Hc.out
 generalize cmpv (val xs) (val [d]) = cv at *
 have hs : Sl (w.drewN q) (w.drewN q).heap.size A n c xs := h.drewN q
 go_wp2_with fail
 refine (clone_any _ _ _ _ xs _ hs (Nat.le_refl _)).mono ?_
 rintro e w1 ⟨rfl, hrow, hb1⟩
 have hb2 := below_undrewN hb1
 have hz : w.heap.size < w1.heap.size := hrow.lt
 have hrow1 : Row w1 w.heap.size xs := hrow
 obtain ⟨ad, rfl, hadb, hc1⟩ := (h'.below hb2).cell (k := 0) (by omega)
 have hc2 : w1.cell? ad = some (.int .u32 (d : Int)) := by
  have e : ad.add 0 = ad := by simp [Addr.add]
  rw [e] at hc1
  exact hc1
 clear hc1 hb1 hrow
 go_wp2_with fail
 refine (divLimb_any w.heap.size 0 n n d xs w1 hrow1 (by rw [Hl.out]; omega) h.ok (by omega) hd0 hd).mono ?_
 rintro e w2 ⟨zs, r, rfl, hr, hr2, hok, hsame, hv, hg⟩
 have hz2 : w.heap.size < w2.heap.size := hr2.lt
 have hlz : zs.length = n := by rw [hsame.1, Hl.out]
 have hsl := hr2.sl (B := w2.heap.size) (n := n) (c := n) hz2 0 (by omega) (Nat.le_refl _) (by omega) hok
 rw [List.drop_zero, List.take_of_length_le (by omega)] at hsl
 have Hv := Lib.hid (show val xs = d * val zs + r by rw [wv_all xs (by rw [Hl.out]; omega), wv_all zs (by omega)] at hv; exact hv)
 have Hg := Lib.hid (below_grown hb2 hg (Nat.le_refl _) (by omega))
 clear hv hlz hsame hr2 hg hrow1
 go_wp2_with fail
 refine (trim_any _ _ _ _ zs w2 hsl).mono ?_
 rintro e w3 ⟨⟨k, hk, rfl, hnz, hv⟩, rfl⟩
 have HV := Lib.hid hv
 clear hv
 go_wp2_with fail
 refine (ofWord_any (r : Int) _ (by omega) (by omega)).mono ?_
 rintro e w4 ⟨A4, n4, c4, xs4, rfl, hs4, hx4, hv4, hb4⟩
 have Hv4 := Lib.hid hv4
 clear hv4
 have hq : val xs / d = val zs := by
  rw [Hv.out, Nat.add_comm, Nat.add_mul_div_left _ _ hd0, Nat.div_eq_of_lt hr, Nat.zero_add]
 have hm : val xs % d = r := by
  rw [Hv.out, Nat.add_comm, Nat.add_mul_mod_self_left, Nat.mod_eq_of_lt hr]
 have Hqm := Lib.hid (And.intro hq hm)
 clear hq hm
 go_wp2
 go_ret2
 exact ⟨_, k, n, _, A4, n4, c4, xs4, rfl, (hsl.to hk).on hb4, hnz, by rw [HV.out, Hval.out, Hqm.out.1], hs4, hx4, by rw [Hv4.out, Hval.out, Hqm.out.2]; omega, below_chain Hg.out (by omega) hb4⟩
end Go.Proofs.YtmncfbfepdbioaaGreatDoor
namespace Go.Proofs.YtmncfbfepdbioaaGreatDoor
open Go.RowKit
def RetI2E (z z' er : Int) (w : World) (e : Ending) (w' : World) : Prop := ∃ A n c xs A' n' c' ys,
 e = .returned (.tuple #[.agg #[.bool (decide (z < 0)), .slice A n c], .agg #[.bool (decide (z' < 0)), .slice A' n' c'], .int .i64 er]) ∧
 Sl w' w'.heap.size A n c xs /\ Nz xs /\ val xs = z.natAbs /\ Sl w' w'.heap.size A' n' c' ys /\ Nz ys /\ val ys = z'.natAbs /\ Below w.heap.size w w'
theorem div_boxes (neg neg' : Bool) (A A' : Option Addr) (n c n' c' : Nat) (w W : World)
 (hW : (((w.alloc (.cells #[.bool neg, .slice A n c] 25)).alloc (.cells #[.bool neg', .slice A' n' c'] 25)).alloc (.cells #[.bool false, .slice none 0 0] 25)).alloc (.cells #[.bool false, .slice none 0 0] 25) = W) :
 Below w.heap.size w W /\ w.heap.size + 1 + 1 + 1 < W.heap.size /\ Bx W w.heap.size neg A n c /\ Bx W (w.heap.size + 1) neg' A' n' c' /\ Bx W (w.heap.size + 1 + 1) false none 0 0 /\ Bx W (w.heap.size + 1 + 1 + 1) false none 0 0 := by
 obtain ⟨h1, h2, h3, h4, h5⟩ := sum_boxes neg neg' A A' n c n' c' w _ rfl
 subst hW
 refine ⟨h1.alloc (by omega) _, by simp, h3.alloc _, h4.alloc _, h5.alloc _, ?_⟩
 have := Bx.new (((w.alloc (.cells #[.bool neg, .slice A n c] 25)).alloc (.cells #[.bool neg', .slice A' n' c'] 25)).alloc (.cells #[.bool false, .slice none 0 0] 25)) false none 0 0
 simpa using this
theorem Sl.ret2 {w : World} {n c r r' : Nat} {A : Option Addr} {xs : List Nat} (h : Sl w w.heap.size A n c xs) (hr : Bx w r false none 0 0) (hr' : Bx w r' false none 0 0) (hne : r ≠ r') (b b' : Bool) (v v' : Value) :
 Sl ((((w.setCell ⟨r, 0, none⟩ (.bool b)).setCell ⟨r, 1, none⟩ v).setCell ⟨r', 0, none⟩ (.bool b')).setCell ⟨r', 1, none⟩ v') ((((w.setCell ⟨r, 0, none⟩ (.bool b)).setCell ⟨r, 1, none⟩ v).setCell ⟨r', 0, none⟩ (.bool b')).setCell ⟨r', 1, none⟩ v').heap.size A n c xs := by
 have h1 := h.ret hr b v
 have hb : Bx ((w.setCell ⟨r, 0, none⟩ (.bool b)).setCell ⟨r, 1, none⟩ v) r' false none 0 0 := Blk.far (Blk.far hr' (p := ⟨r, 0, none⟩) (fun e => hne e.symm) _) (p := ⟨r, 1, none⟩) (fun e => hne e.symm) _
 exact h1.ret hb b' v'
theorem divMod_bad1 (neg neg' : Bool) (A A' : Option Addr) (n c n' c' : Nat) (xs ys : List Nat) (w : World) (h : Sl w w.heap.size A n c xs) (h' : Sl w w.heap.size A' n' c' ys) (hv : vld neg xs = false) :
 Calls Tryz.prog 101 #[.agg #[.bool neg, .slice A n c], .agg #[.bool neg', .slice A' n' c']] w (RetI2E 0 0 1 w) := by
 go_enter Tryz.func101, Tryz.ntmps101
 go_wp2_with fail
 generalize hW : World.alloc (World.alloc (World.alloc (World.alloc w _) _) _) _ = W
 obtain ⟨hb, hz, b0, b1, b2, b3⟩ := div_boxes neg neg' A A' n c n' c' w W hW
 have hs := h.on hb
 have hs' := h'.on hb
 clear hW
 refine (valid_any _ _ _ _ _ xs _ hs (Nat.le_refl _)).mono ?_
 rintro e w1 ⟨rfl, hb1⟩
 have hz1 : w.heap.size + 1 + 1 + 1 < w1.heap.size := by have := hb1.size; omega
 have b1 := b1.below hb1 (by omega)
 have b2 := b2.below hb1 (by omega)
 have b3 := b3.below hb1 (by omega)
 have k1 := b1.c1
 have k3 := b2.c0
 have k4 := b2.c1
 have k5 := b2.f 0
 have k6 := b2.f 1
 have j3 := b3.c0
 have j4 := b3.c1
 have j5 := b3.f 0
 have j6 := b3.f 1
 generalize hr : w.heap.size = r at *
 have HRW := Lib.hid (And.intro hb hr)
 clear hb hr
 go_wp2
 exact bodyPost_ret (v := .tuple #[.agg #[.bool false, .slice none 0 0], .agg #[.bool false, .slice none 0 0], .int .i64 1]) (by simp [results, Tryz.results101, go_sem, k3, k4, j3, j4]) rfl
  ⟨none, 0, 0, [], none, 0, 0, [], rfl, Sl.nil _ _, Nz.nil, rfl, Sl.nil _ _, Nz.nil, rfl, by rw [HRW.out.2]; exact below_ret (below_ret (below_chain HRW.out.1 (by omega) hb1) (show r <= r + 1 + 1 by omega) _ _) (show r <= r + 1 + 1 + 1 by omega) _ _⟩
theorem divMod_bad2 (neg neg' : Bool) (A A' : Option Addr) (n c n' c' : Nat) (xs ys : List Nat) (w : World) (h : Sl w w.heap.size A n c xs) (h' : Sl w w.heap.size A' n' c' ys) (hv : vld neg xs = true) (hv' : vld neg' ys = false) :
 Calls Tryz.prog 101 #[.agg #[.bool neg, .slice A n c], .agg #[.bool neg', .slice A' n' c']] w (RetI2E 0 0 1 w) := by
 go_enter Tryz.func101, Tryz.ntmps101
 go_wp2_with fail
 generalize hW : World.alloc (World.alloc (World.alloc (World.alloc w _) _) _) _ = W
 obtain ⟨hb, hz, b0, b1, b2, b3⟩ := div_boxes neg neg' A A' n c n' c' w W hW
 have hs := h.on hb
 have hs' := h'.on hb
 clear hW
 refine (valid_any _ _ _ _ _ xs _ hs (Nat.le_refl _)).mono ?_
 rintro e w1 ⟨rfl, hb1⟩
 have hz1 : w.heap.size + 1 + 1 + 1 < w1.heap.size := by have := hb1.size; omega
 have b1 := b1.below hb1 (by omega)
 have b2 := b2.below hb1 (by omega)
 have b3 := b3.below hb1 (by omega)
 have q0 := b1.c0
 have q1 := b1.c1
 go_wp2_with fail
 refine (valid_any _ _ _ _ _ ys _ (hs'.on hb1) (Nat.le_refl _)).mono ?_
 rintro e w2 ⟨rfl, hb2⟩
 clear q0 q1
 have b1 := b1.below hb2 (by omega)
 have b2 := b2.below hb2 (by omega)
 have b3 := b3.below hb2 (by omega)
 have k1 := b1.c1
 have k3 := b2.c0
 have k4 := b2.c1
 have k5 := b2.f 0
 have k6 := b2.f 1
 have j3 := b3.c0
 have j4 := b3.c1
 have j5 := b3.f 0
 have j6 := b3.f 1
 generalize hr : w.heap.size = r at *
 have HRW := Lib.hid (And.intro hb hr)
 clear hb hr
 go_wp2
 exact bodyPost_ret (v := .tuple #[.agg #[.bool false, .slice none 0 0], .agg #[.bool false, .slice none 0 0], .int .i64 1]) (by simp [results, Tryz.results101, go_sem, k3, k4, j3, j4]) rfl
  ⟨none, 0, 0, [], none, 0, 0, [], rfl, Sl.nil _ _, Nz.nil, rfl, Sl.nil _ _, Nz.nil, rfl, by rw [HRW.out.2]; exact below_ret (below_ret (below_chain (below_chain HRW.out.1 (by omega) hb1) (by omega) hb2) (show r <= r + 1 + 1 by omega) _ _) (show r <= r + 1 + 1 + 1 by omega) _ _⟩
theorem divMod_zero (neg neg' : Bool) (A A' : Option Addr) (n c n' c' : Nat) (xs ys : List Nat) (w : World) (h : Sl w w.heap.size A n c xs) (h' : Sl w w.heap.size A' n' c' ys) (hv : vld neg xs = true) (hv' : vld neg' ys = true) (h0 : ys = []) :
 Calls Tryz.prog 101 #[.agg #[.bool neg, .slice A n c], .agg #[.bool neg', .slice A' n' c']] w (RetI2E 0 0 4 w) := by
 obtain rfl : n' = 0 := by have := h'.len; rw [h0] at this; simpa using this.symm
 clear h0
 go_enter Tryz.func101, Tryz.ntmps101
 go_wp2_with fail
 generalize hW : World.alloc (World.alloc (World.alloc (World.alloc w _) _) _) _ = W
 obtain ⟨hb, hz, b0, b1, b2, b3⟩ := div_boxes neg neg' A A' n c 0 c' w W hW
 have hs := h.on hb
 have hs' := h'.on hb
 clear hW
 refine (valid_any _ _ _ _ _ xs _ hs (Nat.le_refl _)).mono ?_
 rintro e w1 ⟨rfl, hb1⟩
 have hz1 : w.heap.size + 1 + 1 + 1 < w1.heap.size := by have := hb1.size; omega
 have b1 := b1.below hb1 (by omega)
 have b2 := b2.below hb1 (by omega)
 have b3 := b3.below hb1 (by omega)
 have q0 := b1.c0
 have q1 := b1.c1
 go_wp2_with fail
 refine (valid_any _ _ _ _ _ ys _ (hs'.on hb1) (Nat.le_refl _)).mono ?_
 rintro e w2 ⟨rfl, hb2⟩
 clear q0 q1
 have b1 := b1.below hb2 (by omega)
 have b2 := b2.below hb2 (by omega)
 have b3 := b3.below hb2 (by omega)
 have k1 := b1.c1
 have k3 := b2.c0
 have k4 := b2.c1
 have k5 := b2.f 0
 have k6 := b2.f 1
 have j3 := b3.c0
 have j4 := b3.c1
 have j5 := b3.f 0
 have j6 := b3.f 1
 generalize hr : w.heap.size = r at *
 have HRW := Lib.hid (And.intro hb hr)
 clear hb hr
 go_wp2
 exact bodyPost_ret (v := .tuple #[.agg #[.bool false, .slice none 0 0], .agg #[.bool false, .slice none 0 0], .int .i64 4]) (by simp [results, Tryz.results101, go_sem, k3, k4, j3, j4]) rfl
  ⟨none, 0, 0, [], none, 0, 0, [], rfl, Sl.nil _ _, Nz.nil, rfl, Sl.nil _ _, Nz.nil, rfl, by rw [HRW.out.2]; exact below_ret (below_ret (below_chain (below_chain HRW.out.1 (by omega) hb1) (by omega) hb2) (show r <= r + 1 + 1 by omega) _ _) (show r <= r + 1 + 1 + 1 by omega) _ _⟩
def dq (neg neg' : Bool) (a b : Nat) : Int := if (neg != neg') = true /\ 0 < a % b then sg true (a / b + 1) else sg (neg != neg') (a / b)
def dr (neg neg' : Bool) (a b : Nat) : Int := if (neg != neg') = true /\ 0 < a % b then sg neg' (b - a % b) else sg neg' (a % b)
theorem divMod_ff (A A' : Option Addr) (n c n' c' : Nat) (xs ys : List Nat) (w : World) (h : Sl w w.heap.size A n c xs) (h' : Sl w w.heap.size A' n' c' ys)
 (hv : vld false xs = true) (hv' : vld false ys = true) (h0 : ys ≠ []) (hd : DivSpec xs ys) :
 Calls Tryz.prog 101 #[.agg #[.bool false, .slice A n c], .agg #[.bool false, .slice A' n' c']] w (RetI2E (sg false (val xs / val ys : Nat)) (sg false (val xs % val ys : Nat)) 0 w) := by
 have Hg := Lib.hid (And.intro (vld_true hv) (vld_true hv'))
 have hn0 : 0 < n' := by
  have := h'.len
  rcases Nat.eq_zero_or_pos n' with e | e
  . rw [e] at this; exact absurd (List.eq_nil_of_length_eq_zero this) h0
  . exact e
 have Hpos := Lib.hid (val_pos Hg.out.2.2.1 h0)
 clear h0
 have i4 : ((n' : Int) == 0) = false := by rw [beq_eq_false_iff_ne]; omega
 go_enter Tryz.func101, Tryz.ntmps101
 go_wp2_with fail
 generalize hW : World.alloc (World.alloc (World.alloc (World.alloc w _) _) _) _ = W
 obtain ⟨hb, hz, b0, b1, b2, b3⟩ := div_boxes false false A A' n c n' c' w W hW
 have hs := h.on hb
 have hs' := h'.on hb
 clear hW
 refine (valid_any _ _ _ _ _ xs _ hs (Nat.le_refl _)).mono ?_
 rintro e w1 ⟨rfl, hb1⟩
 have hz1 : w.heap.size + 1 + 1 + 1 < w1.heap.size := by have := hb1.size; omega
 have b0 := b0.below hb1 (by omega)
 have b1 := b1.below hb1 (by omega)
 have b2 := b2.below hb1 (by omega)
 have b3 := b3.below hb1 (by omega)
 have hs := hs.on hb1
 have hs' := hs'.on hb1
 have q0 := b1.c0
 have q1 := b1.c1
 go_wp2_with fail
 refine (valid_any _ _ _ _ _ ys _ hs' (Nat.le_refl _)).mono ?_
 rintro e w2 ⟨rfl, hb2⟩
 clear q0 q1
 have hz2 : w.heap.size + 1 + 1 + 1 < w2.heap.size := by have := hb2.size; omega
 have b0 := b0.below hb2 (by omega)
 have b1 := b1.below hb2 (by omega)
 have b2 := b2.below hb2 (by omega)
 have b3 := b3.below hb2 (by omega)
 have hs := hs.on hb2
 have hs' := hs'.on hb2
 have q0 := b0.c1
 have q1 := b1.c1
 go_wp2_with fail
 refine (hd _ _ _ _ _ _ _ hs hs').mono ?_
 rintro e w3 ⟨A3, n3, c3, xs3, A4, n4, c4, xs4, rfl, hs3, hx3, hv3, hs4, hx4, hv4, hb3⟩
 clear q0 q1
 have hz3 : w.heap.size + 1 + 1 + 1 < w3.heap.size := by have := hb3.size; omega
 have b0 := b0.below hb3 (by omega)
 have b1 := b1.below hb3 (by omega)
 have b2 := b2.below hb3 (by omega)
 have b3 := b3.below hb3 (by omega)
 have hs := hs.on hb3
 have hs' := hs'.on hb3
 have k0 := b0.c0
 have k1 := b1.c0
 have k2 := b1.c1
 have hl4 := hs4.len
 have Hb := Lib.hid (below_chain (below_chain (below_chain hb (by omega) hb1) (by omega) hb2) (by omega) hb3)
 have Hv3 := Lib.hid hv3
 have Hv4 := Lib.hid hv4
 clear hv3 hv4 hl4
 generalize hr : w.heap.size = r at *
 clear hb
 have HR := Lib.hid hr
 clear hr
 have ne1 : r ≠ r + 1 + 1 := by omega
 have ne2 : r + 1 + 1 ≠ r := by omega
 have ne3 : r ≠ r + 1 + 1 + 1 := by omega
 have ne4 : r + 1 + 1 + 1 ≠ r := by omega
 go_wp2_with fail
 go_region_held3 (fun w' => w'.cell? ⟨r, 0, none⟩ = some (.bool false) /\ w'.cell? ⟨r + 1, 0, none⟩ = some (.bool false))
  (go_keep)
  (first
   | (go_at_call 136
      (with_reducible refine (signed_any _ _ _ _ _ _ hrest hx4).mono ?_)
      rintro e w9 ⟨A9, n9, c9, xs9, rfl, hs9, hx9, hv9, hb9⟩
      have H9 := Lib.hid hv9
      clear hv9
      have hq9 := hs8.on hb9
      have b0'' := b0'.below hb9 (by omega)
      have b1'' := b1'.below hb9 (by omega)
      have b2'' := b2'.below hb9 (by omega)
      have b3'' := b3'.below hb9 (by omega)
      have j0' := b0''.c0
      have j1' := b1''.c0
      have m0 := b2''.c0
      have m1 := b2''.c1
      have m2 := b2''.f 0
      have m3 := b2''.f 1
      have m4 := b3''.c0
      have m5 := b3''.c1
      have m6 := b3''.f 0
      have m7 := b3''.f 1)
   | (go_at_call 136
      (with_reducible refine (signed_any _ _ _ _ _ _ hs3.drew hx3).mono ?_)
      rintro e w8 ⟨A8, n8, c8, xs8, rfl, hs8, hx8, hv8, hb8d⟩
      have hb8 := below_undrew hb8d
      clear hb8d
      have H8 := Lib.hid hv8
      clear hv8
      have hz8 : r + 1 + 1 + 1 < w8.heap.size := by have := hb8.size; omega
      have hrest := hs4.on hb8
      have b0' := b0.below hb8 (by omega)
      have b1' := b1.below hb8 (by omega)
      have b2' := b2.below hb8 (by omega)
      have b3' := b3.below hb8 (by omega)
      have j0 := b0'.c0
      have j1 := b1'.c0))
 go_wp2
 refine bodyPost_ret (v := .tuple #[.agg #[.bool (decide (sg false (val xs3) < 0)), .slice A8 n8 c8], .agg #[.bool (decide (sg false (val xs4) < 0)), .slice A9 n9 c9], .int .i64 0]) ?_ rfl
  ⟨A8, n8, c8, xs8, A9, n9, c9, xs9, by rw [Hv3.out, Hv4.out], hq9.ret2 b2'' b3'' (by omega) _ _ _ _, hx8, by rw [H8.out, Hv3.out], hs9.ret2 b2'' b3'' (by omega) _ _ _ _, hx9, by rw [H9.out, Hv4.out], ?_⟩
 . simp [results, Tryz.results101, go_sem, m0, m1, m4, m5]
 . rw [HR.out]; exact below_ret (below_ret (below_chain (below_chain Hb.out (by omega) hb8) (by omega) hb9) (show r <= r + 1 + 1 by omega) _ _) (show r <= r + 1 + 1 + 1 by omega) _ _
theorem divMod_tt (A A' : Option Addr) (n c n' c' : Nat) (xs ys : List Nat) (w : World) (h : Sl w w.heap.size A n c xs) (h' : Sl w w.heap.size A' n' c' ys)
 (hv : vld true xs = true) (hv' : vld true ys = true) (h0 : ys ≠ []) (hd : DivSpec xs ys) :
 Calls Tryz.prog 101 #[.agg #[.bool true, .slice A n c], .agg #[.bool true, .slice A' n' c']] w (RetI2E (sg false (val xs / val ys : Nat)) (sg true (val xs % val ys : Nat)) 0 w) := by
 have Hg := Lib.hid (And.intro (vld_true hv) (vld_true hv'))
 have hn0 : 0 < n' := by
  have := h'.len
  rcases Nat.eq_zero_or_pos n' with e | e
  . rw [e] at this; exact absurd (List.eq_nil_of_length_eq_zero this) h0
  . exact e
 have Hpos := Lib.hid (val_pos Hg.out.2.2.1 h0)
 clear h0
 have i4 : ((n' : Int) == 0) = false := by rw [beq_eq_false_iff_ne]; omega
 go_enter Tryz.func101, Tryz.ntmps101
 go_wp2_with fail
 generalize hW : World.alloc (World.alloc (World.alloc (World.alloc w _) _) _) _ = W
 obtain ⟨hb, hz, b0, b1, b2, b3⟩ := div_boxes true true A A' n c n' c' w W hW
 have hs := h.on hb
 have hs' := h'.on hb
 clear hW
 refine (valid_any _ _ _ _ _ xs _ hs (Nat.le_refl _)).mono ?_
 rintro e w1 ⟨rfl, hb1⟩
 have hz1 : w.heap.size + 1 + 1 + 1 < w1.heap.size := by have := hb1.size; omega
 have b0 := b0.below hb1 (by omega)
 have b1 := b1.below hb1 (by omega)
 have b2 := b2.below hb1 (by omega)
 have b3 := b3.below hb1 (by omega)
 have hs := hs.on hb1
 have hs' := hs'.on hb1
 have q0 := b1.c0
 have q1 := b1.c1
 go_wp2_with fail
 refine (valid_any _ _ _ _ _ ys _ hs' (Nat.le_refl _)).mono ?_
 rintro e w2 ⟨rfl, hb2⟩
 clear q0 q1
 have hz2 : w.heap.size + 1 + 1 + 1 < w2.heap.size := by have := hb2.size; omega
 have b0 := b0.below hb2 (by omega)
 have b1 := b1.below hb2 (by omega)
 have b2 := b2.below hb2 (by omega)
 have b3 := b3.below hb2 (by omega)
 have hs := hs.on hb2
 have hs' := hs'.on hb2
 have q0 := b0.c1
 have q1 := b1.c1
 go_wp2_with fail
 refine (hd _ _ _ _ _ _ _ hs hs').mono ?_
 rintro e w3 ⟨A3, n3, c3, xs3, A4, n4, c4, xs4, rfl, hs3, hx3, hv3, hs4, hx4, hv4, hb3⟩
 clear q0 q1
 have hz3 : w.heap.size + 1 + 1 + 1 < w3.heap.size := by have := hb3.size; omega
 have b0 := b0.below hb3 (by omega)
 have b1 := b1.below hb3 (by omega)
 have b2 := b2.below hb3 (by omega)
 have b3 := b3.below hb3 (by omega)
 have hs := hs.on hb3
 have hs' := hs'.on hb3
 have k0 := b0.c0
 have k1 := b1.c0
 have k2 := b1.c1
 have hl4 := hs4.len
 have Hb := Lib.hid (below_chain (below_chain (below_chain hb (by omega) hb1) (by omega) hb2) (by omega) hb3)
 have Hv3 := Lib.hid hv3
 have Hv4 := Lib.hid hv4
 clear hv3 hv4 hl4
 generalize hr : w.heap.size = r at *
 clear hb
 have HR := Lib.hid hr
 clear hr
 have ne1 : r ≠ r + 1 + 1 := by omega
 have ne2 : r + 1 + 1 ≠ r := by omega
 have ne3 : r ≠ r + 1 + 1 + 1 := by omega
 have ne4 : r + 1 + 1 + 1 ≠ r := by omega
 go_wp2_with fail
 go_region_held3 (fun w' => w'.cell? ⟨r, 0, none⟩ = some (.bool true) /\ w'.cell? ⟨r + 1, 0, none⟩ = some (.bool true))
  (go_keep)
  (first
   | (go_at_call 136
      (with_reducible refine (signed_any _ _ _ _ _ _ hrest hx4).mono ?_)
      rintro e w9 ⟨A9, n9, c9, xs9, rfl, hs9, hx9, hv9, hb9⟩
      have H9 := Lib.hid hv9
      clear hv9
      have hq9 := hs8.on hb9
      have b0'' := b0'.below hb9 (by omega)
      have b1'' := b1'.below hb9 (by omega)
      have b2'' := b2'.below hb9 (by omega)
      have b3'' := b3'.below hb9 (by omega)
      have j0' := b0''.c0
      have j1' := b1''.c0
      have m0 := b2''.c0
      have m1 := b2''.c1
      have m2 := b2''.f 0
      have m3 := b2''.f 1
      have m4 := b3''.c0
      have m5 := b3''.c1
      have m6 := b3''.f 0
      have m7 := b3''.f 1)
   | (go_at_call 136
      (with_reducible refine (signed_any _ _ _ _ _ _ hs3.drew hx3).mono ?_)
      rintro e w8 ⟨A8, n8, c8, xs8, rfl, hs8, hx8, hv8, hb8d⟩
      have hb8 := below_undrew hb8d
      clear hb8d
      have H8 := Lib.hid hv8
      clear hv8
      have hz8 : r + 1 + 1 + 1 < w8.heap.size := by have := hb8.size; omega
      have hrest := hs4.on hb8
      have b0' := b0.below hb8 (by omega)
      have b1' := b1.below hb8 (by omega)
      have b2' := b2.below hb8 (by omega)
      have b3' := b3.below hb8 (by omega)
      have j0 := b0'.c0
      have j1 := b1'.c0))
 go_wp2
 refine bodyPost_ret (v := .tuple #[.agg #[.bool (decide (sg false (val xs3) < 0)), .slice A8 n8 c8], .agg #[.bool (decide (sg true (val xs4) < 0)), .slice A9 n9 c9], .int .i64 0]) ?_ rfl
  ⟨A8, n8, c8, xs8, A9, n9, c9, xs9, by rw [Hv3.out, Hv4.out], hq9.ret2 b2'' b3'' (by omega) _ _ _ _, hx8, by rw [H8.out, Hv3.out], hs9.ret2 b2'' b3'' (by omega) _ _ _ _, hx9, by rw [H9.out, Hv4.out], ?_⟩
 . simp [results, Tryz.results101, go_sem, m0, m1, m4, m5]
 . rw [HR.out]; exact below_ret (below_ret (below_chain (below_chain Hb.out (by omega) hb8) (by omega) hb9) (show r <= r + 1 + 1 by omega) _ _) (show r <= r + 1 + 1 + 1 by omega) _ _
theorem divMod_ft (A A' : Option Addr) (n c n' c' : Nat) (xs ys : List Nat) (w : World) (h : Sl w w.heap.size A n c xs) (h' : Sl w w.heap.size A' n' c' ys)
 (hv : vld false xs = true) (hv' : vld true ys = true) (h0 : ys ≠ []) (hd : DivSpec xs ys) (hk : val xs % val ys = 0) :
 Calls Tryz.prog 101 #[.agg #[.bool false, .slice A n c], .agg #[.bool true, .slice A' n' c']] w (RetI2E (sg true (val xs / val ys : Nat)) (sg true (val xs % val ys : Nat)) 0 w) := by
 have Hg := Lib.hid (And.intro (vld_true hv) (vld_true hv'))
 have hn0 : 0 < n' := by
  have := h'.len
  rcases Nat.eq_zero_or_pos n' with e | e
  . rw [e] at this; exact absurd (List.eq_nil_of_length_eq_zero this) h0
  . exact e
 have Hpos := Lib.hid (val_pos Hg.out.2.2.1 h0)
 have Hk := Lib.hid hk
 clear hk h0
 have i4 : ((n' : Int) == 0) = false := by rw [beq_eq_false_iff_ne]; omega
 go_enter Tryz.func101, Tryz.ntmps101
 go_wp2_with fail
 generalize hW : World.alloc (World.alloc (World.alloc (World.alloc w _) _) _) _ = W
 obtain ⟨hb, hz, b0, b1, b2, b3⟩ := div_boxes false true A A' n c n' c' w W hW
 have hs := h.on hb
 have hs' := h'.on hb
 clear hW
 refine (valid_any _ _ _ _ _ xs _ hs (Nat.le_refl _)).mono ?_
 rintro e w1 ⟨rfl, hb1⟩
 have hz1 : w.heap.size + 1 + 1 + 1 < w1.heap.size := by have := hb1.size; omega
 have b0 := b0.below hb1 (by omega)
 have b1 := b1.below hb1 (by omega)
 have b2 := b2.below hb1 (by omega)
 have b3 := b3.below hb1 (by omega)
 have hs := hs.on hb1
 have hs' := hs'.on hb1
 have q0 := b1.c0
 have q1 := b1.c1
 go_wp2_with fail
 refine (valid_any _ _ _ _ _ ys _ hs' (Nat.le_refl _)).mono ?_
 rintro e w2 ⟨rfl, hb2⟩
 clear q0 q1
 have hz2 : w.heap.size + 1 + 1 + 1 < w2.heap.size := by have := hb2.size; omega
 have b0 := b0.below hb2 (by omega)
 have b1 := b1.below hb2 (by omega)
 have b2 := b2.below hb2 (by omega)
 have b3 := b3.below hb2 (by omega)
 have hs := hs.on hb2
 have hs' := hs'.on hb2
 have q0 := b0.c1
 have q1 := b1.c1
 go_wp2_with fail
 refine (hd _ _ _ _ _ _ _ hs hs').mono ?_
 rintro e w3 ⟨A3, n3, c3, xs3, A4, n4, c4, xs4, rfl, hs3, hx3, hv3, hs4, hx4, hv4, hb3⟩
 clear q0 q1
 have hz3 : w.heap.size + 1 + 1 + 1 < w3.heap.size := by have := hb3.size; omega
 have b0 := b0.below hb3 (by omega)
 have b1 := b1.below hb3 (by omega)
 have b2 := b2.below hb3 (by omega)
 have b3 := b3.below hb3 (by omega)
 have hs := hs.on hb3
 have hs' := hs'.on hb3
 have k0 := b0.c0
 have k1 := b1.c0
 have k2 := b1.c1
 have hl4 := hs4.len
 have Hb := Lib.hid (below_chain (below_chain (below_chain hb (by omega) hb1) (by omega) hb2) (by omega) hb3)
 have Hv3 := Lib.hid hv3
 have Hv4 := Lib.hid hv4
 obtain rfl : n4 = 0 := by
  have e : val xs4 = 0 := by rw [hv4]; exact Hk.out
  rw [val_zero hx4 e] at hl4
  exact hl4.symm
 clear hv3 hv4 hl4
 generalize hr : w.heap.size = r at *
 clear hb
 have HR := Lib.hid hr
 clear hr
 have ne1 : r ≠ r + 1 + 1 := by omega
 have ne2 : r + 1 + 1 ≠ r := by omega
 have ne3 : r ≠ r + 1 + 1 + 1 := by omega
 have ne4 : r + 1 + 1 + 1 ≠ r := by omega
 go_wp2_with fail
 go_region_held3 (fun w' => w'.cell? ⟨r, 0, none⟩ = some (.bool false) /\ w'.cell? ⟨r + 1, 0, none⟩ = some (.bool true))
  (go_keep)
  (first
   | (go_at_call 136
      (with_reducible refine (signed_any _ _ _ _ _ _ hrest hx4).mono ?_)
      rintro e w9 ⟨A9, n9, c9, xs9, rfl, hs9, hx9, hv9, hb9⟩
      have H9 := Lib.hid hv9
      clear hv9
      have hq9 := hs8.on hb9
      have b0'' := b0'.below hb9 (by omega)
      have b1'' := b1'.below hb9 (by omega)
      have b2'' := b2'.below hb9 (by omega)
      have b3'' := b3'.below hb9 (by omega)
      have j0' := b0''.c0
      have j1' := b1''.c0
      have m0 := b2''.c0
      have m1 := b2''.c1
      have m2 := b2''.f 0
      have m3 := b2''.f 1
      have m4 := b3''.c0
      have m5 := b3''.c1
      have m6 := b3''.f 0
      have m7 := b3''.f 1)
   | (go_at_call 136
      (with_reducible refine (signed_any _ _ _ _ _ _ hs3.drew hx3).mono ?_)
      rintro e w8 ⟨A8, n8, c8, xs8, rfl, hs8, hx8, hv8, hb8d⟩
      have hb8 := below_undrew hb8d
      clear hb8d
      have H8 := Lib.hid hv8
      clear hv8
      have hz8 : r + 1 + 1 + 1 < w8.heap.size := by have := hb8.size; omega
      have hrest := hs4.on hb8
      have b0' := b0.below hb8 (by omega)
      have b1' := b1.below hb8 (by omega)
      have b2' := b2.below hb8 (by omega)
      have b3' := b3.below hb8 (by omega)
      have j0 := b0'.c0
      have j1 := b1'.c0))
 go_wp2
 refine bodyPost_ret (v := .tuple #[.agg #[.bool (decide (sg true (val xs3) < 0)), .slice A8 n8 c8], .agg #[.bool (decide (sg true (val xs4) < 0)), .slice A9 n9 c9], .int .i64 0]) ?_ rfl
  ⟨A8, n8, c8, xs8, A9, n9, c9, xs9, by rw [Hv3.out, Hv4.out], hq9.ret2 b2'' b3'' (by omega) _ _ _ _, hx8, by rw [H8.out, Hv3.out], hs9.ret2 b2'' b3'' (by omega) _ _ _ _, hx9, by rw [H9.out, Hv4.out], ?_⟩
 . simp [results, Tryz.results101, go_sem, m0, m1, m4, m5]
 . rw [HR.out]; exact below_ret (below_ret (below_chain (below_chain Hb.out (by omega) hb8) (by omega) hb9) (show r <= r + 1 + 1 by omega) _ _) (show r <= r + 1 + 1 + 1 by omega) _ _
theorem divMod_tf (A A' : Option Addr) (n c n' c' : Nat) (xs ys : List Nat) (w : World) (h : Sl w w.heap.size A n c xs) (h' : Sl w w.heap.size A' n' c' ys)
 (hv : vld true xs = true) (hv' : vld false ys = true) (h0 : ys ≠ []) (hd : DivSpec xs ys) (hk : val xs % val ys = 0) :
 Calls Tryz.prog 101 #[.agg #[.bool true, .slice A n c], .agg #[.bool false, .slice A' n' c']] w (RetI2E (sg true (val xs / val ys : Nat)) (sg false (val xs % val ys : Nat)) 0 w) := by
 have Hg := Lib.hid (And.intro (vld_true hv) (vld_true hv'))
 have hn0 : 0 < n' := by
  have := h'.len
  rcases Nat.eq_zero_or_pos n' with e | e
  . rw [e] at this; exact absurd (List.eq_nil_of_length_eq_zero this) h0
  . exact e
 have Hpos := Lib.hid (val_pos Hg.out.2.2.1 h0)
 have Hk := Lib.hid hk
 clear hk h0
 have i4 : ((n' : Int) == 0) = false := by rw [beq_eq_false_iff_ne]; omega
 go_enter Tryz.func101, Tryz.ntmps101
 go_wp2_with fail
 generalize hW : World.alloc (World.alloc (World.alloc (World.alloc w _) _) _) _ = W
 obtain ⟨hb, hz, b0, b1, b2, b3⟩ := div_boxes true false A A' n c n' c' w W hW
 have hs := h.on hb
 have hs' := h'.on hb
 clear hW
 refine (valid_any _ _ _ _ _ xs _ hs (Nat.le_refl _)).mono ?_
 rintro e w1 ⟨rfl, hb1⟩
 have hz1 : w.heap.size + 1 + 1 + 1 < w1.heap.size := by have := hb1.size; omega
 have b0 := b0.below hb1 (by omega)
 have b1 := b1.below hb1 (by omega)
 have b2 := b2.below hb1 (by omega)
 have b3 := b3.below hb1 (by omega)
 have hs := hs.on hb1
 have hs' := hs'.on hb1
 have q0 := b1.c0
 have q1 := b1.c1
 go_wp2_with fail
 refine (valid_any _ _ _ _ _ ys _ hs' (Nat.le_refl _)).mono ?_
 rintro e w2 ⟨rfl, hb2⟩
 clear q0 q1
 have hz2 : w.heap.size + 1 + 1 + 1 < w2.heap.size := by have := hb2.size; omega
 have b0 := b0.below hb2 (by omega)
 have b1 := b1.below hb2 (by omega)
 have b2 := b2.below hb2 (by omega)
 have b3 := b3.below hb2 (by omega)
 have hs := hs.on hb2
 have hs' := hs'.on hb2
 have q0 := b0.c1
 have q1 := b1.c1
 go_wp2_with fail
 refine (hd _ _ _ _ _ _ _ hs hs').mono ?_
 rintro e w3 ⟨A3, n3, c3, xs3, A4, n4, c4, xs4, rfl, hs3, hx3, hv3, hs4, hx4, hv4, hb3⟩
 clear q0 q1
 have hz3 : w.heap.size + 1 + 1 + 1 < w3.heap.size := by have := hb3.size; omega
 have b0 := b0.below hb3 (by omega)
 have b1 := b1.below hb3 (by omega)
 have b2 := b2.below hb3 (by omega)
 have b3 := b3.below hb3 (by omega)
 have hs := hs.on hb3
 have hs' := hs'.on hb3
 have k0 := b0.c0
 have k1 := b1.c0
 have k2 := b1.c1
 have hl4 := hs4.len
 have Hb := Lib.hid (below_chain (below_chain (below_chain hb (by omega) hb1) (by omega) hb2) (by omega) hb3)
 have Hv3 := Lib.hid hv3
 have Hv4 := Lib.hid hv4
 obtain rfl : n4 = 0 := by
  have e : val xs4 = 0 := by rw [hv4]; exact Hk.out
  rw [val_zero hx4 e] at hl4
  exact hl4.symm
 clear hv3 hv4 hl4
 generalize hr : w.heap.size = r at *
 clear hb
 have HR := Lib.hid hr
 clear hr
 have ne1 : r ≠ r + 1 + 1 := by omega
 have ne2 : r + 1 + 1 ≠ r := by omega
 have ne3 : r ≠ r + 1 + 1 + 1 := by omega
 have ne4 : r + 1 + 1 + 1 ≠ r := by omega
 go_wp2_with fail
 go_region_held3 (fun w' => w'.cell? ⟨r, 0, none⟩ = some (.bool true) /\ w'.cell? ⟨r + 1, 0, none⟩ = some (.bool false))
  (go_keep)
  (first
   | (go_at_call 136
      (with_reducible refine (signed_any _ _ _ _ _ _ hrest hx4).mono ?_)
      rintro e w9 ⟨A9, n9, c9, xs9, rfl, hs9, hx9, hv9, hb9⟩
      have H9 := Lib.hid hv9
      clear hv9
      have hq9 := hs8.on hb9
      have b0'' := b0'.below hb9 (by omega)
      have b1'' := b1'.below hb9 (by omega)
      have b2'' := b2'.below hb9 (by omega)
      have b3'' := b3'.below hb9 (by omega)
      have j0' := b0''.c0
      have j1' := b1''.c0
      have m0 := b2''.c0
      have m1 := b2''.c1
      have m2 := b2''.f 0
      have m3 := b2''.f 1
      have m4 := b3''.c0
      have m5 := b3''.c1
      have m6 := b3''.f 0
      have m7 := b3''.f 1)
   | (go_at_call 136
      (with_reducible refine (signed_any _ _ _ _ _ _ hs3.drew hx3).mono ?_)
      rintro e w8 ⟨A8, n8, c8, xs8, rfl, hs8, hx8, hv8, hb8d⟩
      have hb8 := below_undrew hb8d
      clear hb8d
      have H8 := Lib.hid hv8
      clear hv8
      have hz8 : r + 1 + 1 + 1 < w8.heap.size := by have := hb8.size; omega
      have hrest := hs4.on hb8
      have b0' := b0.below hb8 (by omega)
      have b1' := b1.below hb8 (by omega)
      have b2' := b2.below hb8 (by omega)
      have b3' := b3.below hb8 (by omega)
      have j0 := b0'.c0
      have j1 := b1'.c0))
 go_wp2
 refine bodyPost_ret (v := .tuple #[.agg #[.bool (decide (sg true (val xs3) < 0)), .slice A8 n8 c8], .agg #[.bool (decide (sg false (val xs4) < 0)), .slice A9 n9 c9], .int .i64 0]) ?_ rfl
  ⟨A8, n8, c8, xs8, A9, n9, c9, xs9, by rw [Hv3.out, Hv4.out], hq9.ret2 b2'' b3'' (by omega) _ _ _ _, hx8, by rw [H8.out, Hv3.out], hs9.ret2 b2'' b3'' (by omega) _ _ _ _, hx9, by rw [H9.out, Hv4.out], ?_⟩
 . simp [results, Tryz.results101, go_sem, m0, m1, m4, m5]
 . rw [HR.out]; exact below_ret (below_ret (below_chain (below_chain Hb.out (by omega) hb8) (by omega) hb9) (show r <= r + 1 + 1 by omega) _ _) (show r <= r + 1 + 1 + 1 by omega) _ _
theorem divMod_ft1 (A A' : Option Addr) (n c n' c' : Nat) (xs ys : List Nat) (w : World) (h : Sl w w.heap.size A n c xs) (h' : Sl w w.heap.size A' n' c' ys)
 (hv : vld false xs = true) (hv' : vld true ys = true) (h0 : ys ≠ []) (hd : DivSpec xs ys) (hk : 0 < val xs % val ys) :
 Calls Tryz.prog 101 #[.agg #[.bool false, .slice A n c], .agg #[.bool true, .slice A' n' c']] w (RetI2E (sg true (val xs / val ys + 1 : Nat)) (sg true (val ys - val xs % val ys : Nat)) 0 w) := by
 have Hg := Lib.hid (And.intro (vld_true hv) (vld_true hv'))
 have hn0 : 0 < n' := by
  have := h'.len
  rcases Nat.eq_zero_or_pos n' with e | e
  . rw [e] at this; exact absurd (List.eq_nil_of_length_eq_zero this) h0
  . exact e
 have Hpos := Lib.hid (val_pos Hg.out.2.2.1 h0)
 have Hk := Lib.hid hk
 clear hk h0
 have i4 : ((n' : Int) == 0) = false := by rw [beq_eq_false_iff_ne]; omega
 go_enter Tryz.func101, Tryz.ntmps101
 go_wp2_with fail
 generalize hW : World.alloc (World.alloc (World.alloc (World.alloc w _) _) _) _ = W
 obtain ⟨hb, hz, b0, b1, b2, b3⟩ := div_boxes false true A A' n c n' c' w W hW
 have hs := h.on hb
 have hs' := h'.on hb
 clear hW
 refine (valid_any _ _ _ _ _ xs _ hs (Nat.le_refl _)).mono ?_
 rintro e w1 ⟨rfl, hb1⟩
 have hz1 : w.heap.size + 1 + 1 + 1 < w1.heap.size := by have := hb1.size; omega
 have b0 := b0.below hb1 (by omega)
 have b1 := b1.below hb1 (by omega)
 have b2 := b2.below hb1 (by omega)
 have b3 := b3.below hb1 (by omega)
 have hs := hs.on hb1
 have hs' := hs'.on hb1
 have q0 := b1.c0
 have q1 := b1.c1
 go_wp2_with fail
 refine (valid_any _ _ _ _ _ ys _ hs' (Nat.le_refl _)).mono ?_
 rintro e w2 ⟨rfl, hb2⟩
 clear q0 q1
 have hz2 : w.heap.size + 1 + 1 + 1 < w2.heap.size := by have := hb2.size; omega
 have b0 := b0.below hb2 (by omega)
 have b1 := b1.below hb2 (by omega)
 have b2 := b2.below hb2 (by omega)
 have b3 := b3.below hb2 (by omega)
 have hs := hs.on hb2
 have hs' := hs'.on hb2
 have q0 := b0.c1
 have q1 := b1.c1
 go_wp2_with fail
 refine (hd _ _ _ _ _ _ _ hs hs').mono ?_
 rintro e w3 ⟨A3, n3, c3, xs3, A4, n4, c4, xs4, rfl, hs3, hx3, hv3, hs4, hx4, hv4, hb3⟩
 clear q0 q1
 have hz3 : w.heap.size + 1 + 1 + 1 < w3.heap.size := by have := hb3.size; omega
 have b0 := b0.below hb3 (by omega)
 have b1 := b1.below hb3 (by omega)
 have b2 := b2.below hb3 (by omega)
 have b3 := b3.below hb3 (by omega)
 have hs := hs.on hb3
 have hs' := hs'.on hb3
 have k0 := b0.c0
 have k1 := b1.c0
 have k2 := b1.c1
 have hl4 := hs4.len
 have Hb := Lib.hid (below_chain (below_chain (below_chain hb (by omega) hb1) (by omega) hb2) (by omega) hb3)
 have Hv3 := Lib.hid hv3
 have Hv4 := Lib.hid hv4
 have hn4 : 0 < n4 := by
  rcases Nat.eq_zero_or_pos n4 with e | e
  . rw [e] at hl4
    have := List.eq_nil_of_length_eq_zero hl4
    rw [this] at hv4
    have := Hk.out
    simp only [val] at hv4
    omega
  . exact e
 have hmle : val xs4 <= val ys := by rw [hv4]; exact Nat.le_of_lt (Nat.mod_lt _ Hpos.out)
 have Hmle := Lib.hid hmle
 clear hmle
 have hn3 : n3 <= 1000000 := by
  have e1 : val xs3 < BIG := by
   rw [hv3]
   exact Nat.lt_of_le_of_lt (Nat.div_le_self _ _) ((big_iff h.ok Hg.out.1.2.1).2 Hg.out.1.1)
  have e2 := (big_iff hs3.ok hx3).1 e1
  have e3 := hs3.len
  omega
 clear hv3 hv4 hl4
 generalize hr : w.heap.size = r at *
 clear hb
 have HR := Lib.hid hr
 clear hr
 have ne1 : r ≠ r + 1 + 1 := by omega
 have ne2 : r + 1 + 1 ≠ r := by omega
 have ne3 : r ≠ r + 1 + 1 + 1 := by omega
 have ne4 : r + 1 + 1 + 1 ≠ r := by omega
 go_wp2_with fail
 go_region_held3 (fun w' => w'.cell? ⟨r + 1, 1, none⟩ = some (.slice A' n' c'))
  (go_keep)
  (first
   | (go_at_call 140
      (with_reducible refine (subMag_any _ _ _ _ _ _ _ _ _ hsy6 hsr6 hx4 Hmle.out).mono ?_)
      rintro e w7 ⟨A7, n7, c7, xs7, rfl, hs7, hx7, hv7, hb7⟩
      have H7 := Lib.hid hv7
      clear hv7
      have hz7 : r + 1 + 1 + 1 < w7.heap.size := by have := hb7.size; omega
      have hsq7 := hs6.on hb7
      have b0f := b0e.below hb7 (by omega)
      have b1f := b1e.below hb7 (by omega)
      have b2f := b2e.below hb7 (by omega)
      have b3f := b3e.below hb7 (by omega)
      have k4 := b1f.c1)
   | (go_at_call 138
      (with_reducible refine (addMag_any _ _ _ _ _ _ _ _ _ hsq5 hs5 hn3 hn5).mono ?_)
      rintro e w6 ⟨A6, n6, c6, xs6, rfl, hs6, hx6, hv6, hb6⟩
      have H6 := Lib.hid hv6
      clear hv6
      have hz6 : r + 1 + 1 + 1 < w6.heap.size := by have := hb6.size; omega
      have hsr6 := hsr5.on hb6
      have hsy6 := hsy5.on hb6
      have b0e := b0d.below hb6 (by omega)
      have b1e := b1d.below hb6 (by omega)
      have b2e := b2d.below hb6 (by omega)
      have b3e := b3d.below hb6 (by omega)
      have k4 := b1e.c1)
   | (go_at_call 69
      refine (ofWord_any 1 _ (by omega) (by omega)).mono ?_
      rintro e w5 ⟨A5, n5, c5, xs5, rfl, hs5, hx5, hv5, hb5d⟩
      have hb5 := below_undrew hb5d
      clear hb5d
      have hn5 : n5 <= 1000000 := by
       have e1 := length_le hx5 (n := 1) (by rw [hv5]; decide)
       have e2 := hs5.len
       omega
      have H5 := Lib.hid hv5
      clear hv5
      have hz5 : r + 1 + 1 + 1 < w5.heap.size := by have := hb5.size; omega
      have hsq5 := hs3.on hb5
      have hsr5 := hs4.on hb5
      have hsy5 := hs'.on hb5
      have b0d := b0.below hb5 (by omega)
      have b1d := b1.below hb5 (by omega)
      have b2d := b2.below hb5 (by omega)
      have b3d := b3.below hb5 (by omega)
      have k4 := b1d.c1))
 have k0 := b0f.c0
 have k1 := b1f.c0
 go_wp2_with fail
 go_region_held3 (fun w' => w'.cell? ⟨r, 0, none⟩ = some (.bool false) /\ w'.cell? ⟨r + 1, 0, none⟩ = some (.bool true))
  (go_keep)
  (first
   | (go_at_call 136
      (with_reducible refine (signed_any _ _ _ _ _ _ hrest hx7).mono ?_)
      rintro e w9 ⟨A9, n9, c9, xs9, rfl, hs9, hx9, hv9, hb9⟩
      have H9 := Lib.hid hv9
      clear hv9
      have hq9 := hs8.on hb9
      have b0'' := b0'.below hb9 (by omega)
      have b1'' := b1'.below hb9 (by omega)
      have b2'' := b2'.below hb9 (by omega)
      have b3'' := b3'.below hb9 (by omega)
      have j0' := b0''.c0
      have j1' := b1''.c0
      have m0 := b2''.c0
      have m1 := b2''.c1
      have m2 := b2''.f 0
      have m3 := b2''.f 1
      have m4 := b3''.c0
      have m5 := b3''.c1
      have m6 := b3''.f 0
      have m7 := b3''.f 1)
   | (go_at_call 136
      (with_reducible refine (signed_any _ _ _ _ _ _ hsq7.drew hx6).mono ?_)
      rintro e w8 ⟨A8, n8, c8, xs8, rfl, hs8, hx8, hv8, hb8d⟩
      have hb8 := below_undrew hb8d
      clear hb8d
      have H8 := Lib.hid hv8
      clear hv8
      have hz8 : r + 1 + 1 + 1 < w8.heap.size := by have := hb8.size; omega
      have hrest := hs7.on hb8
      have b0' := b0f.below hb8 (by omega)
      have b1' := b1f.below hb8 (by omega)
      have b2' := b2f.below hb8 (by omega)
      have b3' := b3f.below hb8 (by omega)
      have j0 := b0'.c0
      have j1 := b1'.c0))
 go_wp2
 refine bodyPost_ret (v := .tuple #[.agg #[.bool (decide (sg true (val xs6) < 0)), .slice A8 n8 c8], .agg #[.bool (decide (sg true (val xs7) < 0)), .slice A9 n9 c9], .int .i64 0]) ?_ rfl
  ⟨A8, n8, c8, xs8, A9, n9, c9, xs9, by rw [H6.out, Hv3.out, H5.out, H7.out, Hv4.out]; rfl, hq9.ret2 b2'' b3'' (by omega) _ _ _ _, hx8, by rw [H8.out, H6.out, Hv3.out, H5.out]; rfl, hs9.ret2 b2'' b3'' (by omega) _ _ _ _, hx9, by rw [H9.out, H7.out, Hv4.out], ?_⟩
 . simp [results, Tryz.results101, go_sem, m0, m1, m4, m5]
 . rw [HR.out]; exact below_ret (below_ret (below_chain (below_chain (below_chain (below_chain (below_chain Hb.out (by omega) hb5) (by omega) hb6) (by omega) hb7) (by omega) hb8) (by omega) hb9) (show r <= r + 1 + 1 by omega) _ _) (show r <= r + 1 + 1 + 1 by omega) _ _
theorem divMod_tf1 (A A' : Option Addr) (n c n' c' : Nat) (xs ys : List Nat) (w : World) (h : Sl w w.heap.size A n c xs) (h' : Sl w w.heap.size A' n' c' ys)
 (hv : vld true xs = true) (hv' : vld false ys = true) (h0 : ys ≠ []) (hd : DivSpec xs ys) (hk : 0 < val xs % val ys) :
 Calls Tryz.prog 101 #[.agg #[.bool true, .slice A n c], .agg #[.bool false, .slice A' n' c']] w (RetI2E (sg true (val xs / val ys + 1 : Nat)) (sg false (val ys - val xs % val ys : Nat)) 0 w) := by
 have Hg := Lib.hid (And.intro (vld_true hv) (vld_true hv'))
 have hn0 : 0 < n' := by
  have := h'.len
  rcases Nat.eq_zero_or_pos n' with e | e
  . rw [e] at this; exact absurd (List.eq_nil_of_length_eq_zero this) h0
  . exact e
 have Hpos := Lib.hid (val_pos Hg.out.2.2.1 h0)
 have Hk := Lib.hid hk
 clear hk h0
 have i4 : ((n' : Int) == 0) = false := by rw [beq_eq_false_iff_ne]; omega
 go_enter Tryz.func101, Tryz.ntmps101
 go_wp2_with fail
 generalize hW : World.alloc (World.alloc (World.alloc (World.alloc w _) _) _) _ = W
 obtain ⟨hb, hz, b0, b1, b2, b3⟩ := div_boxes true false A A' n c n' c' w W hW
 have hs := h.on hb
 have hs' := h'.on hb
 clear hW
 refine (valid_any _ _ _ _ _ xs _ hs (Nat.le_refl _)).mono ?_
 rintro e w1 ⟨rfl, hb1⟩
 have hz1 : w.heap.size + 1 + 1 + 1 < w1.heap.size := by have := hb1.size; omega
 have b0 := b0.below hb1 (by omega)
 have b1 := b1.below hb1 (by omega)
 have b2 := b2.below hb1 (by omega)
 have b3 := b3.below hb1 (by omega)
 have hs := hs.on hb1
 have hs' := hs'.on hb1
 have q0 := b1.c0
 have q1 := b1.c1
 go_wp2_with fail
 refine (valid_any _ _ _ _ _ ys _ hs' (Nat.le_refl _)).mono ?_
 rintro e w2 ⟨rfl, hb2⟩
 clear q0 q1
 have hz2 : w.heap.size + 1 + 1 + 1 < w2.heap.size := by have := hb2.size; omega
 have b0 := b0.below hb2 (by omega)
 have b1 := b1.below hb2 (by omega)
 have b2 := b2.below hb2 (by omega)
 have b3 := b3.below hb2 (by omega)
 have hs := hs.on hb2
 have hs' := hs'.on hb2
 have q0 := b0.c1
 have q1 := b1.c1
 go_wp2_with fail
 refine (hd _ _ _ _ _ _ _ hs hs').mono ?_
 rintro e w3 ⟨A3, n3, c3, xs3, A4, n4, c4, xs4, rfl, hs3, hx3, hv3, hs4, hx4, hv4, hb3⟩
 clear q0 q1
 have hz3 : w.heap.size + 1 + 1 + 1 < w3.heap.size := by have := hb3.size; omega
 have b0 := b0.below hb3 (by omega)
 have b1 := b1.below hb3 (by omega)
 have b2 := b2.below hb3 (by omega)
 have b3 := b3.below hb3 (by omega)
 have hs := hs.on hb3
 have hs' := hs'.on hb3
 have k0 := b0.c0
 have k1 := b1.c0
 have k2 := b1.c1
 have hl4 := hs4.len
 have Hb := Lib.hid (below_chain (below_chain (below_chain hb (by omega) hb1) (by omega) hb2) (by omega) hb3)
 have Hv3 := Lib.hid hv3
 have Hv4 := Lib.hid hv4
 have hn4 : 0 < n4 := by
  rcases Nat.eq_zero_or_pos n4 with e | e
  . rw [e] at hl4
    have := List.eq_nil_of_length_eq_zero hl4
    rw [this] at hv4
    have := Hk.out
    simp only [val] at hv4
    omega
  . exact e
 have hmle : val xs4 <= val ys := by rw [hv4]; exact Nat.le_of_lt (Nat.mod_lt _ Hpos.out)
 have Hmle := Lib.hid hmle
 clear hmle
 have hn3 : n3 <= 1000000 := by
  have e1 : val xs3 < BIG := by
   rw [hv3]
   exact Nat.lt_of_le_of_lt (Nat.div_le_self _ _) ((big_iff h.ok Hg.out.1.2.1).2 Hg.out.1.1)
  have e2 := (big_iff hs3.ok hx3).1 e1
  have e3 := hs3.len
  omega
 clear hv3 hv4 hl4
 generalize hr : w.heap.size = r at *
 clear hb
 have HR := Lib.hid hr
 clear hr
 have ne1 : r ≠ r + 1 + 1 := by omega
 have ne2 : r + 1 + 1 ≠ r := by omega
 have ne3 : r ≠ r + 1 + 1 + 1 := by omega
 have ne4 : r + 1 + 1 + 1 ≠ r := by omega
 go_wp2_with fail
 go_region_held3 (fun w' => w'.cell? ⟨r + 1, 1, none⟩ = some (.slice A' n' c'))
  (go_keep)
  (first
   | (go_at_call 140
      (with_reducible refine (subMag_any _ _ _ _ _ _ _ _ _ hsy6 hsr6 hx4 Hmle.out).mono ?_)
      rintro e w7 ⟨A7, n7, c7, xs7, rfl, hs7, hx7, hv7, hb7⟩
      have H7 := Lib.hid hv7
      clear hv7
      have hz7 : r + 1 + 1 + 1 < w7.heap.size := by have := hb7.size; omega
      have hsq7 := hs6.on hb7
      have b0f := b0e.below hb7 (by omega)
      have b1f := b1e.below hb7 (by omega)
      have b2f := b2e.below hb7 (by omega)
      have b3f := b3e.below hb7 (by omega)
      have k4 := b1f.c1)
   | (go_at_call 138
      (with_reducible refine (addMag_any _ _ _ _ _ _ _ _ _ hsq5 hs5 hn3 hn5).mono ?_)
      rintro e w6 ⟨A6, n6, c6, xs6, rfl, hs6, hx6, hv6, hb6⟩
      have H6 := Lib.hid hv6
      clear hv6
      have hz6 : r + 1 + 1 + 1 < w6.heap.size := by have := hb6.size; omega
      have hsr6 := hsr5.on hb6
      have hsy6 := hsy5.on hb6
      have b0e := b0d.below hb6 (by omega)
      have b1e := b1d.below hb6 (by omega)
      have b2e := b2d.below hb6 (by omega)
      have b3e := b3d.below hb6 (by omega)
      have k4 := b1e.c1)
   | (go_at_call 69
      refine (ofWord_any 1 _ (by omega) (by omega)).mono ?_
      rintro e w5 ⟨A5, n5, c5, xs5, rfl, hs5, hx5, hv5, hb5d⟩
      have hb5 := below_undrew hb5d
      clear hb5d
      have hn5 : n5 <= 1000000 := by
       have e1 := length_le hx5 (n := 1) (by rw [hv5]; decide)
       have e2 := hs5.len
       omega
      have H5 := Lib.hid hv5
      clear hv5
      have hz5 : r + 1 + 1 + 1 < w5.heap.size := by have := hb5.size; omega
      have hsq5 := hs3.on hb5
      have hsr5 := hs4.on hb5
      have hsy5 := hs'.on hb5
      have b0d := b0.below hb5 (by omega)
      have b1d := b1.below hb5 (by omega)
      have b2d := b2.below hb5 (by omega)
      have b3d := b3.below hb5 (by omega)
      have k4 := b1d.c1))
 have k0 := b0f.c0
 have k1 := b1f.c0
 go_wp2_with fail
 go_region_held3 (fun w' => w'.cell? ⟨r, 0, none⟩ = some (.bool true) /\ w'.cell? ⟨r + 1, 0, none⟩ = some (.bool false))
  (go_keep)
  (first
   | (go_at_call 136
      (with_reducible refine (signed_any _ _ _ _ _ _ hrest hx7).mono ?_)
      rintro e w9 ⟨A9, n9, c9, xs9, rfl, hs9, hx9, hv9, hb9⟩
      have H9 := Lib.hid hv9
      clear hv9
      have hq9 := hs8.on hb9
      have b0'' := b0'.below hb9 (by omega)
      have b1'' := b1'.below hb9 (by omega)
      have b2'' := b2'.below hb9 (by omega)
      have b3'' := b3'.below hb9 (by omega)
      have j0' := b0''.c0
      have j1' := b1''.c0
      have m0 := b2''.c0
      have m1 := b2''.c1
      have m2 := b2''.f 0
      have m3 := b2''.f 1
      have m4 := b3''.c0
      have m5 := b3''.c1
      have m6 := b3''.f 0
      have m7 := b3''.f 1)
   | (go_at_call 136
      (with_reducible refine (signed_any _ _ _ _ _ _ hsq7.drew hx6).mono ?_)
      rintro e w8 ⟨A8, n8, c8, xs8, rfl, hs8, hx8, hv8, hb8d⟩
      have hb8 := below_undrew hb8d
      clear hb8d
      have H8 := Lib.hid hv8
      clear hv8
      have hz8 : r + 1 + 1 + 1 < w8.heap.size := by have := hb8.size; omega
      have hrest := hs7.on hb8
      have b0' := b0f.below hb8 (by omega)
      have b1' := b1f.below hb8 (by omega)
      have b2' := b2f.below hb8 (by omega)
      have b3' := b3f.below hb8 (by omega)
      have j0 := b0'.c0
      have j1 := b1'.c0))
 go_wp2
 refine bodyPost_ret (v := .tuple #[.agg #[.bool (decide (sg true (val xs6) < 0)), .slice A8 n8 c8], .agg #[.bool (decide (sg false (val xs7) < 0)), .slice A9 n9 c9], .int .i64 0]) ?_ rfl
  ⟨A8, n8, c8, xs8, A9, n9, c9, xs9, by rw [H6.out, Hv3.out, H5.out, H7.out, Hv4.out]; rfl, hq9.ret2 b2'' b3'' (by omega) _ _ _ _, hx8, by rw [H8.out, H6.out, Hv3.out, H5.out]; rfl, hs9.ret2 b2'' b3'' (by omega) _ _ _ _, hx9, by rw [H9.out, H7.out, Hv4.out], ?_⟩
 . simp [results, Tryz.results101, go_sem, m0, m1, m4, m5]
 . rw [HR.out]; exact below_ret (below_ret (below_chain (below_chain (below_chain (below_chain (below_chain Hb.out (by omega) hb5) (by omega) hb6) (by omega) hb7) (by omega) hb8) (by omega) hb9) (show r <= r + 1 + 1 by omega) _ _) (show r <= r + 1 + 1 + 1 by omega) _ _
theorem divMod_good (neg neg' : Bool) (A A' : Option Addr) (n c n' c' : Nat) (xs ys : List Nat) (w : World) (h : Sl w w.heap.size A n c xs) (h' : Sl w w.heap.size A' n' c' ys)
 (hv : vld neg xs = true) (hv' : vld neg' ys = true) (h0 : ys ≠ []) (hd : DivSpec xs ys) :
 Calls Tryz.prog 101 #[.agg #[.bool neg, .slice A n c], .agg #[.bool neg', .slice A' n' c']] w (RetI2E (dq neg neg' (val xs) (val ys)) (dr neg neg' (val xs) (val ys)) 0 w) := by
 cases neg <;> cases neg'
 . exact divMod_ff A A' n c n' c' xs ys w h h' hv hv' h0 hd
 . rcases Nat.eq_zero_or_pos (val xs % val ys) with hk | hk
   . rw [dq, dr, if_neg (by omega), if_neg (by omega)]
     exact divMod_ft A A' n c n' c' xs ys w h h' hv hv' h0 hd hk
   . rw [dq, dr, if_pos ⟨rfl, hk⟩, if_pos ⟨rfl, hk⟩]
     exact divMod_ft1 A A' n c n' c' xs ys w h h' hv hv' h0 hd hk
 . rcases Nat.eq_zero_or_pos (val xs % val ys) with hk | hk
   . rw [dq, dr, if_neg (by omega), if_neg (by omega)]
     exact divMod_tf A A' n c n' c' xs ys w h h' hv hv' h0 hd hk
   . rw [dq, dr, if_pos ⟨rfl, hk⟩, if_pos ⟨rfl, hk⟩]
     exact divMod_tf1 A A' n c n' c' xs ys w h h' hv hv' h0 hd hk
 . exact divMod_tt A A' n c n' c' xs ys w h h' hv hv' h0 hd
end Go.Proofs.YtmncfbfepdbioaaGreatDoor
namespace Go.Proofs.YtmncfbfepdbioaaGreatDoor
open Go.RowKit
def GcdSpec (xs ys : List Nat) : Prop := ∀ (A A' : Option Addr) (n c n' c' : Nat) (w : World), Sl w w.heap.size A n c xs -> Sl w w.heap.size A' n' c' ys →
 Calls Tryz.prog 141 #[.slice A n c, .slice A' n' c'] w (RetNum (Nat.gcd (val xs) (val ys)) w)
theorem two_limbs {w : World} {B n c : Nat} {A : Option Addr} {xs : List Nat} (h : Sl w B A n c xs) (hn : n <= 2) : val xs < 18446744073709551616 := by
 have a := val_lt h.ok
 have b : 4294967296 ^ xs.length <= 4294967296 ^ 2 := Nat.pow_le_pow_right (by decide) (by rw [h.len]; exact hn)
 exact Nat.lt_of_lt_of_le a b
theorem cmpv_ge {a b : Nat} (h : b <= a) : 0 <= cmpv a b := by
 rcases Nat.lt_or_ge b a with h1 | h1
 . rw [cmpv_gt h1]; omega
 . have e : a = b := by omega
   rw [e, cmpv_eq]; omega
theorem gcd_bad1 (neg neg' : Bool) (A A' : Option Addr) (n c n' c' : Nat) (xs : List Nat) (w : World) (h : Sl w w.heap.size A n c xs) (hv : vld neg xs = false) :
 Calls Tryz.prog 100 #[.agg #[.bool neg, .slice A n c], .agg #[.bool neg', .slice A' n' c']] w (RetIE 0 1 w) := by
 go_enter Tryz.func100, Tryz.ntmps100
 go_wp2_with fail
 generalize hW : World.alloc (World.alloc (World.alloc w _) _) _ = W
 obtain ⟨hb, hz, b0, b1, b2⟩ := sum_boxes neg neg' A A' n c n' c' w W hW
 have hs := h.on hb
 clear hW
 refine (valid_any _ _ _ _ _ xs _ hs (Nat.le_refl _)).mono ?_
 rintro e w1 ⟨rfl, hb1⟩
 have b2' := b2.below hb1 (by omega)
 have k3 := b2'.c0
 have k4 := b2'.c1
 have k5 := b2'.f 0
 have k6 := b2'.f 1
 generalize hr : w.heap.size = r at *
 have HRW := Lib.hid (And.intro hb hr)
 clear hb hr
 go_wp2
 exact bodyPost_ret (v := .tuple #[.agg #[.bool false, .slice none 0 0], .int .i64 1]) (by simp [results, Tryz.results100, go_sem, k3, k4]) rfl
  ⟨none, 0, 0, [], rfl, Sl.nil _ _, Nz.nil, rfl, by rw [HRW.out.2]; exact below_ret (below_chain HRW.out.1 (by omega) hb1) (show r <= r + 1 + 1 by omega) _ _⟩
theorem gcd_bad2 (neg neg' : Bool) (A A' : Option Addr) (n c n' c' : Nat) (xs ys : List Nat) (w : World) (h : Sl w w.heap.size A n c xs) (h' : Sl w w.heap.size A' n' c' ys) (hv : vld neg xs = true) (hv' : vld neg' ys = false) :
 Calls Tryz.prog 100 #[.agg #[.bool neg, .slice A n c], .agg #[.bool neg', .slice A' n' c']] w (RetIE 0 1 w) := by
 go_enter Tryz.func100, Tryz.ntmps100
 go_wp2_with fail
 generalize hW : World.alloc (World.alloc (World.alloc w _) _) _ = W
 obtain ⟨hb, hz, b0, b1, b2⟩ := sum_boxes neg neg' A A' n c n' c' w W hW
 have hs := h.on hb
 have hs' := h'.on hb
 clear hW
 refine (valid_any _ _ _ _ _ xs _ hs (Nat.le_refl _)).mono ?_
 rintro e w1 ⟨rfl, hb1⟩
 have hz1 : w.heap.size + 1 + 1 < w1.heap.size := by have := hb1.size; omega
 have b1' := b1.below hb1 (by omega)
 have b2' := b2.below hb1 (by omega)
 have q0 := b1'.c0
 have q1 := b1'.c1
 go_wp2_with fail
 refine (valid_any _ _ _ _ _ ys _ (hs'.on hb1) (Nat.le_refl _)).mono ?_
 rintro e w2 ⟨rfl, hb2⟩
 clear q0 q1
 have b2'' := b2'.below hb2 (by omega)
 have k3 := b2''.c0
 have k4 := b2''.c1
 have k5 := b2''.f 0
 have k6 := b2''.f 1
 generalize hr : w.heap.size = r at *
 have HRW := Lib.hid (And.intro hb hr)
 clear hb hr
 go_wp2
 exact bodyPost_ret (v := .tuple #[.agg #[.bool false, .slice none 0 0], .int .i64 1]) (by simp [results, Tryz.results100, go_sem, k3, k4]) rfl
  ⟨none, 0, 0, [], rfl, Sl.nil _ _, Nz.nil, rfl, by rw [HRW.out.2]; exact below_ret (below_chain (below_chain HRW.out.1 (by omega) hb1) (by omega) hb2) (show r <= r + 1 + 1 by omega) _ _⟩
theorem gcd_good (neg neg' : Bool) (A A' : Option Addr) (n c n' c' : Nat) (xs ys : List Nat) (w : World) (h : Sl w w.heap.size A n c xs) (h' : Sl w w.heap.size A' n' c' ys) (hv : vld neg xs = true) (hv' : vld neg' ys = true) (hd : GcdSpec xs ys) :
 Calls Tryz.prog 100 #[.agg #[.bool neg, .slice A n c], .agg #[.bool neg', .slice A' n' c']] w (RetIE (Nat.gcd (val xs) (val ys) : Nat) 0 w) := by
 go_enter Tryz.func100, Tryz.ntmps100
 go_wp2_with fail
 generalize hW : World.alloc (World.alloc (World.alloc w _) _) _ = W
 obtain ⟨hb, hz, b0, b1, b2⟩ := sum_boxes neg neg' A A' n c n' c' w W hW
 have hs := h.on hb
 have hs' := h'.on hb
 clear hW
 refine (valid_any _ _ _ _ _ xs _ hs (Nat.le_refl _)).mono ?_
 rintro e w1 ⟨rfl, hb1⟩
 have hz1 : w.heap.size + 1 + 1 < w1.heap.size := by have := hb1.size; omega
 have b0' := b0.below hb1 (by omega)
 have b1' := b1.below hb1 (by omega)
 have b2' := b2.below hb1 (by omega)
 have hs1 := hs.on hb1
 have hs1' := hs'.on hb1
 have q0 := b1'.c0
 have q1 := b1'.c1
 go_wp2_with fail
 refine (valid_any _ _ _ _ _ ys _ hs1' (Nat.le_refl _)).mono ?_
 rintro e w2 ⟨rfl, hb2⟩
 clear q0 q1
 have hz2 : w.heap.size + 1 + 1 < w2.heap.size := by have := hb2.size; omega
 have b0'' := b0'.below hb2 (by omega)
 have b1'' := b1'.below hb2 (by omega)
 have b2'' := b2'.below hb2 (by omega)
 have hs2 := hs1.on hb2
 have hs2' := hs1'.on hb2
 have k0 := b0''.c0
 have k1 := b0''.c1
 have k2 := b1''.c0
 have k3 := b1''.c1
 generalize hr : w.heap.size = r at *
 have HRW := Lib.hid (And.intro hb hr)
 clear hb hr
 go_wp2_with fail
 refine (hd _ _ _ _ _ _ _ hs2 hs2').mono ?_
 rintro e w3 ⟨A3, n3, c3, xs3, rfl, hs3, hx3, hv3, hb3⟩
 have b3 := b2''.below hb3 (by omega)
 have hz3 : r + 1 + 1 < w3.heap.size := b3.lt
 have Hv3 := Lib.hid hv3
 clear hv3
 go_wp2_with fail
 refine (signed_any false _ _ _ _ _ hs3 hx3).mono ?_
 rintro e w4 ⟨A4, n4, c4, xs4, rfl, hs4, hx4, hv4, hb4⟩
 have b4 := b3.below hb4 (by omega)
 have j3 := b4.c0
 have j4 := b4.c1
 have j5 := b4.f 0
 have j6 := b4.f 1
 have Hv4 := Lib.hid hv4
 clear hv4
 go_wp2
 exact bodyPost_ret (v := .tuple #[.agg #[.bool (decide (sg false (val xs3) < 0)), .slice A4 n4 c4], .int .i64 0]) (by simp [results, Tryz.results100, go_sem, j3, j4]) rfl
  ⟨A4, n4, c4, xs4, by rw [Hv3.out]; rfl, hs4.ret b4 _ _, hx4, by rw [Hv4.out, Hv3.out]; rfl, by rw [HRW.out.2]; exact below_ret (below_chain (below_chain (below_chain (below_chain HRW.out.1 (by omega) hb1) (by omega) hb2) (by omega) hb3) (by omega) hb4) (show r <= r + 1 + 1 by omega) _ _⟩
end Go.Proofs.YtmncfbfepdbioaaGreatDoor
namespace Go.Proofs.YtmncfbfepdbioaaGreatDoor
open Go.RowKit
theorem Sl.from_ {w : World} {B n c k : Nat} {A : Option Addr} {xs : List Nat} (h : Sl w B A n c xs) (hk : k <= n) : Sl w B (if c = k then A else A.map (·.add k)) (n - k) (c - k) (xs.drop k) := by
 have hc := h.cap
 have hr := h.reach
 have hcr := h.capr
 refine ⟨by omega, by omega, by omega, ?_, ?_, h.ok.drop k⟩
 . intro e
   by_cases hck : c = k
   . omega
   . rw [if_neg hck] at e
     have : A = none := by cases A <;> simp_all
     have := h.nil_ this
     omega
 . have := h.reads.cut (cap := c) hk hc
   rw [Nat.mul_one] at this
   rw [us, List.map_drop]
   exact this
theorem shr_cast (X t : Nat) : ((X : Int) / 2 ^ t % 4294967296) = ((X / 2 ^ t % 4294967296 : Nat) : Int) := by
 rw [Int.natCast_emod, Int.natCast_ediv, Int.natCast_pow]; rfl
theorem shr_rel {w wr : World} {zr ys : List Nat} {g k m t : Nat} (hy : Ok ys) (ht : t <= 32) (hkm : k < m) (Hlen : Hid (zr.length = m)) (Hrw : Hid (Row wr g zr)) (Hok : Hid (Ok zr))
 (Hdone : Hid (∀ i, i < k -> lim zr i = val ys / 2 ^ t / 4294967296 ^ i % 4294967296)) (Hrest : Hid (∀ i, k <= i -> lim zr i = lim ys i)) (Hb : Hid (Below g w wr)) (X : Nat) (hX : X = lim zr k + 4294967296 * lim zr (k + 1)) :
 Hid ((zr.set k (X / 2 ^ t % 4294967296)).length = m) /\ Hid (Row (wr.setCell ⟨g, k, none⟩ (.int .u32 ((X / 2 ^ t % 4294967296 : Nat) : Int))) g (zr.set k (X / 2 ^ t % 4294967296))) /\ Hid (Ok (zr.set k (X / 2 ^ t % 4294967296))) ∧
 Hid (∀ i, i < k + 1 -> lim (zr.set k (X / 2 ^ t % 4294967296)) i = val ys / 2 ^ t / 4294967296 ^ i % 4294967296) /\ Hid (∀ i, k + 1 <= i -> lim (zr.set k (X / 2 ^ t % 4294967296)) i = lim ys i) ∧
 Hid (Below g w (wr.setCell ⟨g, k, none⟩ (.int .u32 ((X / 2 ^ t % 4294967296 : Nat) : Int)))) := by
 refine ⟨by rw [Hid, List.length_set, Hlen.out], Hrw.out.set _ _, Hok.out.set _ (Nat.mod_lt _ (by decide)), fun i hi => ?_, fun i hi => ?_, Hb.out.setCell (Nat.le_refl _) _⟩
 . by_cases hik : i = k
   . subst hik
     rw [lim_set_eq (by rw [Hlen.out]; exact hkm), hX, Hrest.out i (Nat.le_refl _), Hrest.out (i + 1) (by omega), lim_digit hy i, lim_digit hy (i + 1)]
     exact shr_limb _ _ _ ht
   . rw [lim_set_ne (by omega)]; exact Hdone.out i (by omega)
 . rw [lim_set_ne (by omega)]; exact Hrest.out i (by omega)
theorem shr_end {xs zr : List Nat} {s l t : Nat} (hx : Ok xs) (hl : l < xs.length) (hs : s = 32 * l + t) (hlen : zr.length = xs.length - l)
 (hd : ∀ i, i < xs.length - l -> lim zr i = val (xs.drop l) / 2 ^ t / 4294967296 ^ i % 4294967296) : val zr = val xs / 2 ^ s := by
 have e1 : val xs / 4294967296 ^ l = val (xs.drop l) := by
  rw [val_take_drop xs l (by omega), Nat.add_mul_div_left _ _ (pow_pos' l)]
  have := val_lt (hx.take l)
  rw [List.length_take, Nat.min_eq_left (by omega)] at this
  rw [Nat.div_eq_of_lt this, Nat.zero_add]
 have e2 : (2 : Nat) ^ s = 4294967296 ^ l * 2 ^ t := by
  rw [hs, Nat.pow_add, Nat.pow_mul]
 rw [e2, <- Nat.div_div_eq_div_mul, e1, <- wv_all zr (show zr.length <= xs.length - l by omega), wv_digits hd, Nat.mod_eq_of_lt]
 refine Nat.lt_of_le_of_lt (Nat.div_le_self _ _) ?_
 have := val_lt (hx.drop l)
 rwa [List.length_drop] at this
theorem shiftRight_any (A : Option Addr) (n c s l t : Nat) (xs : List Nat) (w : World) (h : Sl w w.heap.size A n c xs) (hs : s <= 1000000) (hl : (s : Int) / 32 = (l : Int)) (ht : (s : Int) % 32 = (t : Int)) :
 Calls Tryz.prog 202 #[.slice A n c, .int .i64 (s : Int)] w (RetNum (val xs / 2 ^ s) w) := by
 have hcap := h.cap
 have hreach := h.reach
 have hcr := h.capr
 have Hst := Lib.hid (show s = 32 * l + t /\ t < 32 by omega)
 by_cases hln : l < n
 . have hne : ¬ c = l := by omega
   go_enter Tryz.func202, Tryz.ntmps202
   go_wp2_with fail
   have hsl := h.from_ (k := l) (by omega)
   rw [if_neg hne] at hsl
   have HL := Lib.hid hsl.len
   refine (clone_any _ _ _ _ _ _ hsl (Nat.le_refl _)).mono ?_
   rintro e w1 ⟨rfl, hrow, hb1⟩
   have Hrow0 := Lib.hid hrow
   have Hb1 := Lib.hid hb1
   clear hrow hb1
   have hmn : n - l <= n := by omega
   have Hend := Lib.hid (fun zr hlen hdig => shr_end (s := s) (l := l) (t := t) (zr := zr) h.ok (by rw [h.len]; exact hln) Hst.out.1 hlen hdig)
   rw [h.len] at Hend
   generalize hm : n - l = m at *
   generalize hys : xs.drop l = ys at *
   clear hm hys
   go_wp2
   go_loopw [24] (fun iv wr => ∃ (k : Nat) (zr : List Nat), k <= m /\ iv = .int .i64 k /\ Hid (zr.length = m) /\ Hid (Row wr w.heap.size zr) /\ Hid (Ok zr) /\ Hid (∀ i, i < k -> lim zr i = val ys / 2 ^ t / 4294967296 ^ i % 4294967296) ∧
    Hid (∀ i, k <= i -> lim zr i = lim ys i) /\ Hid (Below w.heap.size w wr)) (fun iv _ => m - (intOf iv).toNat)
   case atStart => exact ⟨0, ys, by omega, rfl, HL.out, Hrow0.out, hsl.ok, (fun i hi => absurd hi (by omega)), (fun _ _ => rfl), Hb1.out⟩
   case round =>
    obtain ⟨k, zr, hk, rfl, Hlen, Hrw, Hok, Hdone, Hrest, Hb⟩ := hrel
    by_cases hkm : k < m
    . have hc1 := Hrw.out.cell (i := k) (by rw [Hlen.out]; exact hkm)
      have hf1 := Hrw.out.free k
      have x1 := Hok.out.lim k
      by_cases hk1 : k + 1 < m
      . have hc2 := Hrw.out.cell (i := k + 1) (by rw [Hlen.out]; exact hk1)
        have x2 := Hok.out.lim (k + 1)
        have R := Lib.hid (shr_rel (m := m) hsl.ok (show t <= 32 by have := Hst.out.2; omega) hkm Hlen Hrw Hok Hdone Hrest Hb _ rfl)
        go_wp2
        rw [or_shift' (lim zr k) (lim zr (k + 1)) x1 x2, shr_cast]
        exact ⟨⟨k + 1, _, by omega, by go_num, R.out⟩, by simp [intOf]; omega⟩
      . have Z := Lib.hid (lim_past (xs := zr) (k := k + 1) (by rw [Hlen.out]; omega))
        have R := Lib.hid (shr_rel (m := m) hsl.ok (show t <= 32 by have := Hst.out.2; omega) hkm Hlen Hrw Hok Hdone Hrest Hb (lim zr k) (by rw [Z.out]; omega))
        go_wp2
        rw [shr_cast]
        exact ⟨⟨k + 1, _, by omega, by go_num, R.out⟩, by simp [intOf]; omega⟩
    . obtain rfl : k = m := by omega
      have hz := Hrw.out.lt
      have hsz := Hrw.out.sl (B := wr.heap.size) (n := k) (c := k) hz 0 (by rw [Hlen.out]; omega) (Nat.le_refl _) (by omega) Hok.out
      rw [List.drop_zero, List.take_of_length_le (by rw [Hlen.out]; omega)] at hsz
      have He := Lib.hid (Hend.out zr Hlen.out Hdone.out)
      go_wp2_with fail
      refine (trim_any _ _ _ _ zr wr hsz).mono ?_
      rintro e w3 ⟨⟨j, hj, rfl, hnz, hv⟩, rfl⟩
      have HV := Lib.hid hv
      clear hv
      go_wp2
      go_ret
      exact ⟨_, _, _, _, rfl, hsz.to hj, hnz, by rw [HV.out]; exact He.out, Hb.out⟩
 . go_enter Tryz.func202, Tryz.ntmps202
   have Hz := Lib.hid (show val xs / 2 ^ s = 0 by
    refine Nat.div_eq_of_lt (Nat.lt_of_lt_of_le (val_lt h.ok) ?_)
    rw [show (4294967296 : Nat) = 2 ^ 32 by decide, <- Nat.pow_mul, h.len]
    exact Nat.pow_le_pow_right (by decide) (by have := Hst.out; omega))
   go_wp2
   rw [Hz.out]
   go_ret
   exact ⟨none, 0, 0, [], rfl, Sl.nil _ _, Nz.nil, rfl, Below.refl _ _⟩
end Go.Proofs.YtmncfbfepdbioaaGreatDoor
namespace Go.Proofs.YtmncfbfepdbioaaGreatDoor
open Go.RowKit
def pw (k : Nat) : Nat := 2 ^ k
def down (s : Int) : Nat := if s < -4096 then 4096 else (-s).toNat
end Go.Proofs.YtmncfbfepdbioaaGreatDoor
namespace Go.Proofs.YtmncfbfepdbioaaGreatDoor
open Go.RowKit
end Go.Proofs.YtmncfbfepdbioaaGreatDoor
namespace Go.Proofs.YtmncfbfepdbioaaGreatDoor
open Go.RowKit
theorem rtrim_any (A : Option Addr) (n c B : Nat) (xs : List Nat) (w : World) (h : Sl w B A n c xs) :
 Calls Tryz.prog 153 #[.slice A n c] w fun e w' => (∃ k, k <= n /\ e = .returned (.slice A k c) /\ Nz (xs.take k) /\ val (xs.take k) = val xs) /\ w = w' := by
 have hc := h.cap
 have hr := h.reach
 have hcr := h.capr
 have hl := h.len
 go_enter Tryz.func153, Tryz.ntmps153
 go_wp2
 go_loop [0] (fun i => ∃ k : Nat, k <= n /\ i = .slice A k c /\ val (xs.take k) = val xs) (fun i => match i with | .slice _ k _ => k | _ => 0)
 case atStart => exact ⟨n, Nat.le_refl _, rfl, by rw [List.take_of_length_le (by omega)]⟩
 case round =>
  obtain ⟨k, hk, rfl, hv⟩ := hrel
  have HV := Lib.hid hv
  clear hv hl
  rcases k with _ | k
  . go_wp2
    go_ret
    exact ⟨⟨0, by omega, rfl, nz_take (.inl rfl), HV.out⟩, rfl⟩
  . obtain ⟨ad, rfl, hb, hcell⟩ := h.cell (k := k) (by omega)
    go_wp2
    . have h0 : ((lim xs k : Nat) == (0 : Int)) = true := by assumption
      go_round
      case rel => exact ⟨k, by omega, rfl, by rw [<- HV.out, val_drop_last]; simpa using h0⟩
      case measure => simp
    . have h0 : ((lim xs k : Nat) == (0 : Int)) = false := by assumption
      go_ret
      exact ⟨⟨k + 1, by omega, rfl, nz_take (.inr ⟨by rw [h.len]; omega, by simpa using h0⟩), HV.out⟩, rfl⟩
theorem rplus_rel {w wr : World} {zr xs ys : List Nat} {g k m cy : Nat} (hlt : k < m) (hm : zr.length = m) (Hrow : Hid (Row wr g zr)) (Hok : Hid (Ok zr))
 (Hval : Hid (wv zr 0 k + 4294967296 ^ k * cy = val (xs.take k) + val (ys.take k))) (Hb : Hid (Below g w wr)) (s : Nat) (hs : s = cy + lim xs k + lim ys k) :
 Hid ((zr.set k (s % 4294967296)).length = m) /\ Hid (Row (wr.setCell ⟨g, k, none⟩ (.int .u32 ((s % 4294967296 : Nat) : Int))) g (zr.set k (s % 4294967296))) /\ Hid (Ok (zr.set k (s % 4294967296))) ∧
 Hid (wv (zr.set k (s % 4294967296)) 0 (k + 1) + 4294967296 ^ (k + 1) * (s / 4294967296) = val (xs.take (k + 1)) + val (ys.take (k + 1))) ∧
 Hid (Below g w (wr.setCell ⟨g, k, none⟩ (.int .u32 ((s % 4294967296 : Nat) : Int)))) := by
 refine ⟨by rw [Hid, List.length_set, hm], Hrow.out.set _ _, Hok.out.set _ (by omega), ?_, Hb.out.setCell (Nat.le_refl _) _⟩
 have e := wv_set_end (zs := zr) (off := 0) (k := k) (v := s % 4294967296) (by omega)
 rw [Nat.zero_add] at e
 rw [Hid, e, val_take_succ, val_take_succ, Nat.pow_succ]
 exact add_step (P := 4294967296 ^ k) (v := s % 4294967296) (c' := s / 4294967296) (c := cy) (b := lim ys k) (t := lim xs k) (by omega) Hval.out
theorem rplus_end {xs ys zr : List Nat} {n n' m cy : Nat} (hx : Ok xs) (hy : Ok ys) (lx : xs.length = n) (ly : ys.length = n') (h1 : n <= m) (h2 : n' <= m)
 (hv : wv zr 0 (m + 1) + 4294967296 ^ (m + 1) * cy = val (xs.take (m + 1)) + val (ys.take (m + 1))) : wv zr 0 (m + 1) = val xs + val ys := by
 rw [List.take_of_length_le (by omega), List.take_of_length_le (by omega)] at hv
 have a := val_lt hx
 have b := val_lt hy
 have c : 4294967296 ^ ys.length <= 4294967296 ^ m := Nat.pow_le_pow_right (by decide) (by omega)
 have d : 4294967296 ^ xs.length <= 4294967296 ^ m := Nat.pow_le_pow_right (by decide) (by omega)
 have e := add_small (Nat.lt_of_lt_of_le a d) (Nat.lt_of_lt_of_le b c)
 rw [<- Nat.pow_succ] at e
 exact no_carry hv e
theorem rplus_any (A A' : Option Addr) (n c n' c' : Nat) (xs ys : List Nat) (w : World) (h : Sl w w.heap.size A n c xs) (h' : Sl w w.heap.size A' n' c' ys) (hn : n <= 1000000) (hn' : n' <= 1000000) :
 Calls Tryz.prog 183 #[.slice A n c, .slice A' n' c'] w (RetNum (val xs + val ys) w) := by
 by_cases hle : n < n'
 . have hle' : (n : Int) < (n' : Int) := by omega
   have hmk := make_any ((n' : Int) + 1) (n' + 1) (by omega) (by omega)
   have Hrow := Lib.hid (Row.made w (n' + 1))
   have Hb0 := Lib.hid ((Below.refl w.heap.size w).alloc (Nat.le_refl _) (.cells (zrow (n' + 1)) 44))
   have He := Lib.hid (fun (cy : Nat) (zr : List Nat) => rplus_end (zr := zr) (cy := cy) (m := n') h.ok h'.ok h.len h'.len (by omega) (by omega))
   go_enter Tryz.func183, Tryz.ntmps183
   go_wp2
   go_loopw [6, 7] (fun cv iv wr => ∃ (k cy : Nat) (zr : List Nat), k <= n' + 1 /\ iv = .int .i64 k /\ cv = .int .u64 cy /\ cy <= 1 /\ Hid (zr.length = n' + 1) /\ Hid (Row wr w.heap.size zr) /\ Hid (Ok zr) ∧
    Hid (wv zr 0 k + 4294967296 ^ k * cy = val (xs.take k) + val (ys.take k)) /\ Hid (Below w.heap.size w wr)) (fun _ iv _ => n' + 1 - (intOf iv).toNat)
   case atStart => exact ⟨0, 0, List.replicate (n' + 1) 0, by omega, rfl, rfl, by omega, by rw [Hid, List.length_replicate], Hrow.out, ok_zeros _, by simp [Hid, wv, val], Hb0.out⟩
   case round =>
    obtain ⟨k, cy, zr, hk, rfl, rfl, hcy, Hlen, Hrw, Hok, Hval, Hb⟩ := hrel
    by_cases hkn : k < n' + 1
    . have hc1 := Hrw.out.cell (i := k) (by rw [Hlen.out]; exact hkn)
      have hf1 := Hrw.out.free k
      have R := Lib.hid (rplus_rel (xs := xs) (ys := ys) hkn Hlen.out Hrw Hok Hval Hb _ rfl)
      have lx := h.ok.lim k
      have ly := h'.ok.lim k
      by_cases k1 : k < n
      . obtain ⟨ad, rfl, _, hcx⟩ := (h.below Hb.out).cell k1
        by_cases k2 : k < n'
        . obtain ⟨ad', rfl, _, hcy'⟩ := (h'.below Hb.out).cell k2
          go_wp2
          rw [show Value.int .u32 ((↑cy + ↑(lim xs k) + ↑(lim ys k)) % 4294967296) = Value.int .u32 (((cy + lim xs k + lim ys k) % 4294967296 : Nat) : Int) by go_num]
          exact ⟨⟨k + 1, (cy + lim xs k + lim ys k) / 4294967296, _, by omega, by go_num, by go_num, by omega, R.out⟩, by simp [intOf]; omega⟩
        . omega
      . have Z1 := Lib.hid (sl_lim_past h (k := k) (by omega))
        rw [Z1.out, Nat.add_zero] at R
        by_cases k2 : k < n'
        . obtain ⟨ad', rfl, _, hcy'⟩ := (h'.below Hb.out).cell k2
          go_wp2
          rw [show Value.int .u32 ((↑cy + ↑(lim ys k)) % 4294967296) = Value.int .u32 (((cy + lim ys k) % 4294967296 : Nat) : Int) by go_num]
          exact ⟨⟨k + 1, (cy + lim ys k) / 4294967296, _, by omega, by go_num, by go_num, by omega, R.out⟩, by simp [intOf]; omega⟩
        . have Z2 := Lib.hid (sl_lim_past h' (k := k) (by omega))
          rw [Z2.out, Nat.add_zero] at R
          rw [show cy % 4294967296 = cy by omega] at R
          go_wp2
          exact ⟨⟨k + 1, cy / 4294967296, _, by omega, by go_num, by go_num, by omega, R.out⟩, by simp [intOf]; omega⟩
    . obtain rfl : k = n' + 1 := by omega
      have Hz := Lib.hid Hrw.out.lt
      have hsl := Hrw.out.sl (B := wr.heap.size) (n := n' + 1) (c := n' + 1) Hrw.out.lt 0 (by rw [Hlen.out]; omega) (Nat.le_refl _) (by omega) Hok.out
      rw [List.drop_zero, List.take_of_length_le (by rw [Hlen.out]; omega)] at hsl
      go_wp2_with fail
      refine (rtrim_any _ _ _ _ zr wr hsl).mono ?_
      rintro e w3 ⟨⟨k, hk, rfl, hnz, hv⟩, rfl⟩
      have HV := Lib.hid hv
      clear hv
      go_wp2
      go_ret
      exact ⟨_, _, _, _, rfl, hsl.to hk, hnz, by rw [HV.out, <- wv_all zr (show zr.length <= n' + 1 by rw [Hlen.out]; omega)]; exact He.out _ _ Hval.out, Hb.out⟩
 . have hle' : (n' : Int) <= (n : Int) := by omega
   have hmk := make_any ((n : Int) + 1) (n + 1) (by omega) (by omega)
   have Hrow := Lib.hid (Row.made w (n + 1))
   have Hb0 := Lib.hid ((Below.refl w.heap.size w).alloc (Nat.le_refl _) (.cells (zrow (n + 1)) 44))
   have He := Lib.hid (fun (cy : Nat) (zr : List Nat) => rplus_end (zr := zr) (cy := cy) (m := n) h.ok h'.ok h.len h'.len (by omega) (by omega))
   go_enter Tryz.func183, Tryz.ntmps183
   go_wp2
   go_loopw [6, 7] (fun cv iv wr => ∃ (k cy : Nat) (zr : List Nat), k <= n + 1 /\ iv = .int .i64 k /\ cv = .int .u64 cy /\ cy <= 1 /\ Hid (zr.length = n + 1) /\ Hid (Row wr w.heap.size zr) /\ Hid (Ok zr) ∧
    Hid (wv zr 0 k + 4294967296 ^ k * cy = val (xs.take k) + val (ys.take k)) /\ Hid (Below w.heap.size w wr)) (fun _ iv _ => n + 1 - (intOf iv).toNat)
   case atStart => exact ⟨0, 0, List.replicate (n + 1) 0, by omega, rfl, rfl, by omega, by rw [Hid, List.length_replicate], Hrow.out, ok_zeros _, by simp [Hid, wv, val], Hb0.out⟩
   case round =>
    obtain ⟨k, cy, zr, hk, rfl, rfl, hcy, Hlen, Hrw, Hok, Hval, Hb⟩ := hrel
    by_cases hkn : k < n + 1
    . have hc1 := Hrw.out.cell (i := k) (by rw [Hlen.out]; exact hkn)
      have hf1 := Hrw.out.free k
      have R := Lib.hid (rplus_rel (xs := xs) (ys := ys) hkn Hlen.out Hrw Hok Hval Hb _ rfl)
      have lx := h.ok.lim k
      have ly := h'.ok.lim k
      by_cases k1 : k < n
      . obtain ⟨ad, rfl, _, hcx⟩ := (h.below Hb.out).cell k1
        by_cases k2 : k < n'
        . obtain ⟨ad', rfl, _, hcy'⟩ := (h'.below Hb.out).cell k2
          go_wp2
          rw [show Value.int .u32 ((↑cy + ↑(lim xs k) + ↑(lim ys k)) % 4294967296) = Value.int .u32 (((cy + lim xs k + lim ys k) % 4294967296 : Nat) : Int) by go_num]
          exact ⟨⟨k + 1, (cy + lim xs k + lim ys k) / 4294967296, _, by omega, by go_num, by go_num, by omega, R.out⟩, by simp [intOf]; omega⟩
        . have Z2 := Lib.hid (sl_lim_past h' (k := k) (by omega))
          rw [Z2.out, Nat.add_zero] at R
          go_wp2
          rw [show Value.int .u32 ((↑cy + ↑(lim xs k)) % 4294967296) = Value.int .u32 (((cy + lim xs k) % 4294967296 : Nat) : Int) by go_num]
          exact ⟨⟨k + 1, (cy + lim xs k) / 4294967296, _, by omega, by go_num, by go_num, by omega, R.out⟩, by simp [intOf]; omega⟩
      . have Z1 := Lib.hid (sl_lim_past h (k := k) (by omega))
        rw [Z1.out, Nat.add_zero] at R
        by_cases k2 : k < n'
        . omega
        . have Z2 := Lib.hid (sl_lim_past h' (k := k) (by omega))
          rw [Z2.out, Nat.add_zero] at R
          rw [show cy % 4294967296 = cy by omega] at R
          go_wp2
          exact ⟨⟨k + 1, cy / 4294967296, _, by omega, by go_num, by go_num, by omega, R.out⟩, by simp [intOf]; omega⟩
    . obtain rfl : k = n + 1 := by omega
      have Hz := Lib.hid Hrw.out.lt
      have hsl := Hrw.out.sl (B := wr.heap.size) (n := n + 1) (c := n + 1) Hrw.out.lt 0 (by rw [Hlen.out]; omega) (Nat.le_refl _) (by omega) Hok.out
      rw [List.drop_zero, List.take_of_length_le (by rw [Hlen.out]; omega)] at hsl
      go_wp2_with fail
      refine (rtrim_any _ _ _ _ zr wr hsl).mono ?_
      rintro e w3 ⟨⟨k, hk, rfl, hnz, hv⟩, rfl⟩
      have HV := Lib.hid hv
      clear hv
      go_wp2
      go_ret
      exact ⟨_, _, _, _, rfl, hsl.to hk, hnz, by rw [HV.out, <- wv_all zr (show zr.length <= n + 1 by rw [Hlen.out]; omega)]; exact He.out _ _ Hval.out, Hb.out⟩
end Go.Proofs.YtmncfbfepdbioaaGreatDoor
