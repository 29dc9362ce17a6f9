/-
 Written by mkbase.py: Bits, RefAdd, RefNeg, RefSubs, RefTimes, RefMul, RefQuotP.
-/
import Derived.Deep.DeepCutAuto
import Derived.StillTailTactics
import Derived.RegionTactic
import Derived.ChangeAlike
import Derived.IntWalk
import Derived.Test.YtmncfbfepdbioaaGreatDoorBaseF
set_option maxRecDepth 20000
set_option maxHeartbeats 2000000
namespace Go.Proofs.YtmncfbfepdbioaaGreatDoor
open Go.RowKit
theorem rdigits_any (A : Option Addr) (n c B : Nat) (xs : List Nat) (w : World) (h : Sl w B A n c xs) (hx : Nz xs) (hn : n <= 1000000) :
 Calls Tryz.prog 212 #[.slice A n c] w fun e w' => e = .returned (.int .i64 (nbits (val xs) : Nat)) /\ w = w' := by
 have hcap := h.cap
 have hcr := h.capr
 rcases n with _ | m
 . obtain rfl : xs = [] := List.eq_nil_of_length_eq_zero h.len
   go_enter Tryz.func212, Tryz.ntmps212
   go_wp2
   go_ret
   exact ⟨rfl, rfl⟩
 . have Hv := Lib.hid (nbits_val h.ok hx h.len)
   have hx1 := h.ok.lim m
   have hb1 := nbits_limb hx1
   obtain ⟨ad, rfl, hadb, hc1⟩ := h.cell (k := m) (by omega)
   have i4 : (((m + 1 : Nat) : Int) == 0) = false := by rw [beq_eq_false_iff_ne]; omega
   have i1 : ((m + 1 : Nat) : Int) - 1 = (m : Int) := by omega
   have i2 : (m : Int) < ((m + 1 : Nat) : Int) := by omega
   go_enter Tryz.func212, Tryz.ntmps212
   go_wp2
   go_loop [3, 4] (fun nv tv => ∃ k t : Nat, tv = .int .u32 t /\ t < 4294967296 /\ nv = .int .i64 (32 * m + k : Nat) /\ Hid (k + nbits t = nbits (lim xs m))) (fun _ tv => (intOf tv).toNat)
   case atStart => exact ⟨0, lim xs m, rfl, hx1, by go_num, by rw [Hid, Nat.zero_add]⟩
   case round =>
    obtain ⟨k, t, rfl, ht, rfl, Hk⟩ := hrel
    by_cases h0 : t = 0
    . subst h0
      have Hk' := Lib.hid (show k = nbits (lim xs m) from Hk.out)
      go_wp2
      go_ret
      exact ⟨ret_int (by rw [Hv.out, Hk'.out]; omega), rfl⟩
    . have hp : 0 < (t : Int) := by omega
      have Hh := Lib.hid (nbits_half h0)
      have hk : k <= 32 := by have := Hk.out; omega
      go_wp2
      go_round
      case rel => exact ⟨k + 1, t / 2, by go_num, by omega, by go_num, by have := Hk.out; have := Hh.out; rw [Hid]; omega⟩
      case measure => simp [intOf]; omega
end Go.Proofs.YtmncfbfepdbioaaGreatDoor
namespace Go.Proofs.YtmncfbfepdbioaaGreatDoor
open Go.RowKit
end Go.Proofs.YtmncfbfepdbioaaGreatDoor
namespace Go.Proofs.YtmncfbfepdbioaaGreatDoor
open Go.RowKit
end Go.Proofs.YtmncfbfepdbioaaGreatDoor
namespace Go.Proofs.YtmncfbfepdbioaaGreatDoor
open Go.RowKit
end Go.Proofs.YtmncfbfepdbioaaGreatDoor
namespace Go.Proofs.YtmncfbfepdbioaaGreatDoor
open Go.RowKit
end Go.Proofs.YtmncfbfepdbioaaGreatDoor
namespace Go.Proofs.YtmncfbfepdbioaaGreatDoor
open Go.RowKit
end Go.Proofs.YtmncfbfepdbioaaGreatDoor
namespace Go.Proofs.YtmncfbfepdbioaaGreatDoor
open Go.RowKit
theorem div_step {N D j b R : Nat} (hD : 0 < D) (hb : N / 2 ^ j % 2 = b) (hR : N / 2 ^ (j + 1) % D = R) :
 (2 * R + b < D -> N / 2 ^ j / D * 2 ^ j = N / 2 ^ (j + 1) / D * 2 ^ (j + 1) /\ N / 2 ^ j % D = 2 * R + b) ∧
 (D <= 2 * R + b -> N / 2 ^ j / D * 2 ^ j = N / 2 ^ (j + 1) / D * 2 ^ (j + 1) + 2 ^ j /\ N / 2 ^ j % D = 2 * R + b - D) := by
 have e : N / 2 ^ (j + 1) = N / 2 ^ j / 2 := by rw [Nat.pow_succ, Nat.div_div_eq_div_mul]
 rw [e] at hR ⊢
 generalize N / 2 ^ j = M at *
 have e2 := Nat.div_add_mod (M / 2) D
 have hm := Nat.mod_lt (M / 2) hD
 rw [hR] at e2 hm
 have em : M = 2 * (M / 2) + b := by omega
 generalize M / 2 = H at *
 generalize H / D = Q at *
 have key : M = D * (2 * Q) + (2 * R + b) := by
  rw [Nat.mul_left_comm, em, <- e2]; omega
 rw [Nat.pow_succ]
 constructor
 . intro h
   have k1 : M / D = 2 * Q := by rw [key, Nat.mul_add_div hD, Nat.div_eq_of_lt h, Nat.add_zero]
   have k2 : M % D = 2 * R + b := by rw [key, Nat.mul_add_mod, Nat.mod_eq_of_lt h]
   exact ⟨by rw [k1, Nat.mul_comm 2 Q, Nat.mul_assoc, Nat.mul_comm 2], k2⟩
 . intro h
   have key2 : M = D * (2 * Q + 1) + (2 * R + b - D) := by rw [Nat.mul_add, Nat.mul_one]; omega
   have hl : 2 * R + b - D < D := by omega
   have k1 : M / D = 2 * Q + 1 := by rw [key2, Nat.mul_add_div hD, Nat.div_eq_of_lt hl, Nat.add_zero]
   have k2 : M % D = 2 * R + b - D := by rw [key2, Nat.mul_add_mod, Nat.mod_eq_of_lt hl]
   exact ⟨by rw [k1, Nat.add_mul, Nat.one_mul, Nat.mul_comm 2 Q, Nat.mul_assoc, Nat.mul_comm 2], k2⟩
theorem val_set_bit {zs : List Nat} {l t j Q : Nat} (hz : Ok zs) (hj : j = 32 * l + t) (ht : t < 32) (hl : l < zs.length) (hv : val zs = Q * 2 ^ (j + 1)) :
 lim zs l + 2 ^ t < 4294967296 /\ val (zs.set l (lim zs l + 2 ^ t)) = val zs + 2 ^ j := by
 have e : (4294967296 : Nat) ^ l = 2 ^ (32 * l) := by rw [show (4294967296 : Nat) = 2 ^ 32 by decide, <- Nat.pow_mul]
 constructor
 . have d := lim_digit hz l
   rw [hv, hj, e, show 32 * l + t + 1 = (t + 1) + 32 * l by omega, Nat.pow_add, <- Nat.mul_assoc, Nat.mul_div_cancel _ (Nat.pow_pos (by decide))] at d
   have h1 : (2 : Nat) ^ (t + 1) ∣ 4294967296 := ⟨2 ^ (31 - t), by rw [<- Nat.pow_add, show t + 1 + (31 - t) = 32 by omega]⟩
   have h2 : (2 : Nat) ^ (t + 1) ∣ lim zs l := by
    rw [d]; exact (Nat.dvd_mod_iff h1).2 (Nat.dvd_mul_left _ _)
   have h3 := hz.lim l
   obtain ⟨u, hu⟩ := h1
   obtain ⟨v, hv'⟩ := h2
   rw [hv'] at h3 ⊢
   rw [hu] at h3 ⊢
   have h4 : v < u := Nat.lt_of_mul_lt_mul_left h3
   have h5 : 2 ^ (t + 1) * (v + 1) <= 2 ^ (t + 1) * u := Nat.mul_le_mul_left _ h4
   have h6 : (2 : Nat) ^ t < 2 ^ (t + 1) := Nat.pow_lt_pow_right (by decide) (by omega)
   rw [Nat.mul_add, Nat.mul_one] at h5
   omega
 . have a := val_split zs l 1 (zs.length - l - 1) (by omega)
   have b := val_split (zs.set l (lim zs l + 2 ^ t)) l 1 (zs.length - l - 1) (by rw [List.length_set]; omega)
   have e1 : wv (zs.set l (lim zs l + 2 ^ t)) 0 l = wv zs 0 l := wv_set_past (by omega)
   have e2 : wv (zs.set l (lim zs l + 2 ^ t)) l 1 = lim zs l + 2 ^ t := by simp only [wv, Nat.pow_zero, Nat.one_mul, Nat.zero_add, Nat.add_zero]; exact lim_set_eq hl
   have e3 : wv (zs.set l (lim zs l + 2 ^ t)) (l + 1) (zs.length - l - 1) = wv zs (l + 1) (zs.length - l - 1) := wv_congr fun i _ => lim_set_ne (by omega)
   have e4 : wv zs l 1 = lim zs l := by simp only [wv, Nat.pow_zero, Nat.one_mul, Nat.zero_add, Nat.add_zero]
   rw [b, a, e1, e2, e3, e4, hj, Nat.pow_add, <- e]
   generalize 4294967296 ^ l = P
   generalize wv zs (l + 1) (zs.length - l - 1) = H
   grind
theorem Sl.apart {w : World} {B n c : Nat} {A : Option Addr} {xs : List Nat} (h : Sl w B A n c xs) {p : Addr} (hp : ∀ ad, A = some ad -> ad.block ≠ p.block) (u : Value) : Sl (w.setCell p u) B A n c xs := by
 refine ⟨h.cap, h.reach, h.capr, h.nil_, ⟨h.reads.1, fun hn => ?_⟩, h.ok⟩
 obtain ⟨ad, e, hb, hc⟩ := h.reads.2 hn
 refine ⟨ad, e, hb, fun j v hj => ?_⟩
 rw [World.cell?_setCell_other w p _ u (fun e' => hp ad e (by rw [<- block_of_add ad (j * 1), Nat.mul_one, <- e']))]
 exact hc j v hj
structure Dv (w wr : World) (g n D N J : Nat) (A : Option Addr) (nr cr : Nat) (rs zr : List Nat) : Prop where
 lz : zr.length = n
 rz : Row wr g zr
 oz : Ok zr
 q : val zr = N / 2 ^ J / D * 2 ^ J
 sr : Sl wr wr.heap.size A nr cr rs
 nr' : Nz rs
 r : val rs = N / 2 ^ J % D
 ap : ∀ ad, A = some ad -> ad.block ≠ g
 be : Below w.heap.size w wr
theorem rdivide_long (A A' : Option Addr) (n c n' c' : Nat) (xs ys : List Nat) (w : World) (h : Sl w w.heap.size A n c xs) (h' : Sl w w.heap.size A' n' c' ys) (hx : Nz xs) (hy : Nz ys) (hn : n <= 10000) (hn' : n' <= 10000) (h1 : n' ≠ 1) (h0 : 0 < val ys) :
 Calls Tryz.prog 205 #[.slice A n c, .slice A' n' c'] w (RetNum2 (val xs / val ys) (val xs % val ys) w) := by
 have i0 : ((n' : Int) == 1) = false := by rw [beq_eq_false_iff_ne]; omega
 have hmk := make_any (n : Int) n rfl (by omega)
 have Hrow := Lib.hid (Row.made w n)
 have Hb0 := Lib.hid ((Below.refl w.heap.size w).alloc (Nat.le_refl _) (.cells (zrow n) 44))
 have Hsx := Lib.hid h
 have Hsy := Lib.hid h'
 have HX := Lib.hid (And.intro hx hy)
 have Hlx := Lib.hid (show nbits (val xs) <= 32 * n by
  rw [nbits_le_iff]
  have := val_lt h.ok
  rw [h.len, show (4294967296 : Nat) = 2 ^ 32 by decide, <- Nat.pow_mul] at this
  exact this)
 have hs0 := h.alloc (Nat.le_refl _) (.cells (zrow n) 44)
 clear h1 h h'
 go_enter Tryz.func205, Tryz.ntmps205
 go_wp2_with fail
 refine (rdigits_any _ _ _ _ xs _ hs0 hx (by omega)).mono ?_
 rintro e w1 ⟨rfl, rfl⟩
 have hbn := nbits_lt (val xs)
 have HBN := Lib.hid hbn
 clear hbn hs0
 have hnb : nbits (val xs) <= 32 * n := Hlx.out
 generalize nbits (val xs) = K at *
 go_wp2_with fail
 go_loopw [8, 10] (fun sv iv wr => ∃ (J : Nat) (A : Option Addr) (nr cr : Nat) (rs zr : List Nat), sv = .slice A nr cr /\ iv = .int .i64 ((J : Int) - 1) /\ J <= 32 * n /\ Hid (Dv w wr w.heap.size n (val ys) (val xs) J A nr cr rs zr)) (fun _ iv _ => (intOf iv + 1).toNat)
 case atStart =>
  refine ⟨K, none, 0, 0, [], List.replicate n 0, rfl, rfl, hnb, ⟨List.length_replicate, Hrow.out, ok_zeros _, ?_, Sl.nil _ _, Nz.nil, ?_, (fun _ e => by cases e), Hb0.out⟩⟩
  . rw [val_zeros, Nat.div_eq_of_lt HBN.out, Nat.zero_div, Nat.zero_mul]
  . rw [Nat.div_eq_of_lt HBN.out]; rfl
 case round =>
  obtain ⟨J, Ar, nr, cr, rs, zr, rfl, rfl, hJ, HD⟩ := hrel
  rcases J with _ | j
  . have e0 : decide ((0 : Int) <= ((0 : Nat) : Int) - 1) = false := by decide
    have hz := HD.out.rz.lt
    have hsz := HD.out.rz.sl (B := wr.heap.size) (n := n) (c := n) hz 0 (by rw [HD.out.lz]; omega) (Nat.le_refl _) (by omega) HD.out.oz
    rw [List.drop_zero, List.take_of_length_le (by rw [HD.out.lz]; omega)] at hsz
    have HQ := Lib.hid (show val zr = val xs / val ys /\ val rs = val xs % val ys from by
     have q := HD.out.q
     have r := HD.out.r
     rw [Nat.pow_zero, Nat.div_one] at q r
     rw [Nat.mul_one] at q
     exact ⟨q, r⟩)
    go_wp2_with fail
    refine (rtrim_any _ _ _ _ zr wr hsz).mono ?_
    rintro e w3 ⟨⟨k, hk, rfl, hnz, hv⟩, rfl⟩
    have HV := Lib.hid hv
    clear hv
    go_wp2
    go_ret2
    exact ⟨_, k, n, _, Ar, nr, cr, rs, rfl, hsz.to hk, hnz, by rw [HV.out]; exact HQ.out.1, HD.out.sr, HD.out.nr', HQ.out.2, HD.out.be⟩
  . have ej : ((j + 1 : Nat) : Int) - 1 = (j : Int) := by omega
    rw [ej]
    clear ej
    obtain ⟨l, t, hl, ht, hjl⟩ : ∃ l t : Nat, (j : Int) / 32 = (l : Int) /\ (j : Int) % 32 = (t : Int) /\ j = 32 * l + t /\ t < 32 := ⟨j / 32, j % 32, by omega, by omega, by omega, by omega⟩
    have HLT := Lib.hid (And.intro hl (And.intro ht hjl))
    clear hl ht hjl
    have hln : l < n := by have := HLT.out.2.2; omega
    have hnr : nr <= 10000 := by
     have a : val rs < 4294967296 ^ n' := by
      rw [HD.out.r]
      have := val_lt Hsy.out.ok
      rw [Hsy.out.len] at this
      exact Nat.lt_trans (Nat.mod_lt _ h0) this
     have := length_le HD.out.nr' a
     have := HD.out.sr.len
     omega
    obtain ⟨b, hb⟩ : ∃ b, val xs / 2 ^ j % 2 = b := ⟨_, rfl⟩
    have hb1 : b <= 1 := by omega
    have HS := Lib.hid (div_step h0 hb HD.out.r.symm)
    have Hbit := Lib.hid hb
    clear hb
    have hsx := Hsx.out.on HD.out.be
    go_wp2_with fail
    refine (rbit_any _ _ _ _ j l t b _ _ hsx (by omega) HLT.out.1 HLT.out.2.1 Hbit.out).mono ?_
    rintro e w2 ⟨rfl, rfl⟩
    clear hsx
    go_wp2_with fail
    refine (rdouble_new _ _ _ b _ _ HD.out.sr (by omega) hb1).mono ?_
    rintro e w3 ⟨n1, c1, xs1, rfl, hs1, hx1, hv1, hbn1⟩
    have HV1 := Lib.hid hv1
    clear hv1
    have HN := Lib.hid (And.intro hs1 (And.intro hx1 hbn1))
    have hsy := Hsy.out.on (below_chain HD.out.be HD.out.be.size hbn1)
    have hzr := HD.out.rz.below hbn1 HD.out.rz.lt
    have hgl := HD.out.rz.lt
    have HB3 := Lib.hid (below_chain HD.out.be HD.out.be.size hbn1)
    have HZ := Lib.hid hzr
    have HG := Lib.hid (show w.heap.size < w2.heap.size from hgl)
    clear hgl hzr hbn1
    go_wp2_with fail
    refine (rorder_any _ _ _ _ _ _ _ _ xs1 ys _ hs1 hsy hx1 HX.out.2).mono ?_
    rintro e w4 ⟨rfl, q, rfl⟩
    rw [HV1.out]
    by_cases hlt : 2 * val rs + b < val ys
    . have hc : cmpv (2 * val rs + b) (val ys) < 0 := by rw [cmpv_lt hlt]; decide
      have HE := Lib.hid (HS.out.1 hlt)
      have HN4 := Lib.hid (show Dv w (w3.drewN q) w.heap.size n (val ys) (val xs) j (some ⟨w2.heap.size, 0, none⟩) n1 c1 xs1 zr from
       ⟨HD.out.lz, HZ.out.drewN q, HD.out.oz, by rw [HE.out.1]; exact HD.out.q, HN.out.1.drewN q, HN.out.2.1, by rw [HV1.out, HE.out.2], fun ad e => by injection e with e; rw [<- e]; have := HG.out; simp; omega, below_drewN HB3.out q⟩)
      clear hlt hs1 hx1 hsy
      go_wp2
      exact ⟨⟨j, _, _, _, xs1, zr, rfl, rfl, by omega, HN4.out⟩, by simp [intOf]⟩
    . have hge : val ys <= 2 * val rs + b := by omega
      have hc : 0 <= cmpv (2 * val rs + b) (val ys) := cmpv_ge hge
      have HE := Lib.hid (HS.out.2 hge)
      have HGE := Lib.hid hge
      clear hlt hge
      go_wp2_with fail
      refine (rminus_new _ _ _ _ _ _ xs1 ys _ (hs1.drewN q) (hsy.drewN q) HX.out.2 (by rw [HV1.out]; exact HGE.out)).mono ?_
      rintro e w5 ⟨n5, c5, xs5, rfl, hs5, hx5, hv5, hbn5⟩
      have HV5 := Lib.hid hv5
      have HS5 := Lib.hid (And.intro hs5 hx5)
      have HB5 := Lib.hid (below_chain (below_drewN HB3.out q) (below_drewN HB3.out q).size hbn5)
      have HZ5 := Lib.hid ((HZ.out.drewN q).below hbn5 (HZ.out.drewN q).lt)
      have HG5 := Lib.hid (show w2.heap.size <= (w3.drewN q).heap.size from by have := HN.out.2.2; have := this.size; simpa using this)
      clear hv5 hbn5 hs5 hx5 hs1 hx1 hsy
      have cl := HZ5.out.cell (i := l) (by rw [HD.out.lz]; exact hln)
      have fl := HZ5.out.free l
      have hl := HLT.out.1
      have ht := HLT.out.2.1
      have sb := val_set_bit HD.out.oz HLT.out.2.2.1 HLT.out.2.2.2 (by rw [HD.out.lz]; exact hln) HD.out.q
      have SB := Lib.hid sb
      clear sb
      have hli : (l : Int) < (n : Int) := by omega
      go_wp2_with fail
      go_region
      go_wp2
      have e9 : ((lim zr l : Nat) : Int) + 2 ^ t = ((lim zr l + 2 ^ t : Nat) : Int) := by rw [Int.natCast_add, Int.natCast_pow]; rfl
      have e8 : ((lim zr l + 2 ^ t : Nat) : Int) % 4294967296 = ((lim zr l + 2 ^ t : Nat) : Int) := by
       have := SB.out.1
       generalize lim zr l + 2 ^ t = v at *
       omega
      rw [e9, e8]
      have hg5 : w.heap.size ≠ w3.heap.size := by have := HG.out; have := HG5.out; simp at this; omega
      refine ⟨⟨j, _, _, _, xs5, zr.set l (lim zr l + 2 ^ t), rfl, rfl, by omega, ?_⟩, by simp [intOf]⟩
      exact ⟨by rw [List.length_set]; exact HD.out.lz, (HZ5.out.set l _).drew, HD.out.oz.set l SB.out.1, by rw [SB.out.2, HE.out.1, HD.out.q], ((HS5.out.1.apart (fun ad e => by injection e with e; rw [<- e]; exact hg5.symm) _).more (by simp [World.setCell])).drew, HS5.out.2, by rw [HV5.out, HV1.out, HE.out.2], fun ad e => by injection e with e; rw [<- e]; exact hg5.symm, (HB5.out.setCell (Nat.le_refl _) _).drew⟩
end Go.Proofs.YtmncfbfepdbioaaGreatDoor
namespace Go.Proofs.YtmncfbfepdbioaaGreatDoor
open Go.RowKit
theorem sl_one (w : World) : Sl (w.alloc (.cells #[.int .u32 1] 44)) (w.alloc (.cells #[.int .u32 1] 44)).heap.size (some ⟨w.heap.size, 0, none⟩) 1 1 [1] :=
 Row.sl (w := w.alloc (.cells #[.int .u32 1] 44)) (zs := [1]) (Blk.new w 44 _) (show w.heap.size < (w.alloc (.cells #[.int .u32 1] 44)).heap.size by simp) 0 (Nat.le_refl _) (Nat.le_refl _) (by decide) (by unfold Ok; decide)
theorem rdivide_one (A A' : Option Addr) (n c c' d : Nat) (xs : List Nat) (w : World) (h : Sl w w.heap.size A n c xs) (h' : Sl w w.heap.size A' 1 c' [d]) (hn : n <= 10000) (hd : 0 < d) :
 Calls Tryz.prog 205 #[.slice A n c, .slice A' 1 c'] w (RetNum2 (val xs / d) (val xs % d) w) := by
 have hd9 : d < 4294967296 := h'.ok.head
 obtain ⟨ad, rfl, hadb, hc1⟩ := h'.cell (k := 0) (by omega)
 have e : ad.add 0 = ad := by simp [Addr.add]
 rw [e] at hc1
 clear e
 have hc2 : w.cell? ad = some (.int .u32 (d : Int)) := hc1
 clear hc1
 have Hm := Lib.hid (Nat.mod_lt (val xs) hd)
 go_enter Tryz.func205, Tryz.ntmps205
 go_wp2_with fail
 refine (rshort_any _ _ _ d xs _ h (by omega) hd hd9).mono ?_
 rintro e w1 ⟨A1, n1, c1, xs1, rfl, hs1, hx1, hv1, hb1⟩
 have HV := Lib.hid (And.intro hx1 hv1)
 clear hx1 hv1
 generalize hr : val xs % d = r at *
 have HR := Lib.hid hr
 clear hr
 have hr9 : r < 4294967296 := by have := Hm.out; omega
 have hrow : Row (w1.alloc (Obj.cells #[Value.int IntKind.u32 (r : Int)] 44)) w1.heap.size [r] := Blk.new w1 _ _
 have hok : Ok [r] := Ok.cons hr9 Ok.nil
 have hsl := hrow.sl (B := w1.heap.size + 1) (n := 1) (c := 1) (by omega) 0 (by simp) (by omega) (by omega) hok
 have hs2 := hs1.on (fresh_below w1 (Obj.cells #[Value.int IntKind.u32 (r : Int)] 44))
 have hb2 := below_chain hb1 hb1.size (fresh_below w1 (Obj.cells #[Value.int IntKind.u32 (r : Int)] 44))
 go_wp2_with fail
 refine (rtrim_any _ 1 1 _ _ _ hsl).mono ?_
 rintro e w3 ⟨⟨k, hk, rfl, hnz, hv⟩, rfl⟩
 have HV3 := Lib.hid hv
 clear hv
 go_wp2
 go_ret2
 exact ⟨A1, n1, c1, xs1, _, k, 1, _, rfl, hs2, HV.out.1, HV.out.2, (hsl.to hk).more (by simp), hnz, by rw [HV3.out]; simp [val], hb2⟩
theorem rdivide_any (A A' : Option Addr) (n c n' c' : Nat) (xs ys : List Nat) (w : World) (h : Sl w w.heap.size A n c xs) (h' : Sl w w.heap.size A' n' c' ys) (hx : Nz xs) (hy : Nz ys) (hn : n <= 10000) (hn' : n' <= 10000) (h0 : 0 < val ys) :
 Calls Tryz.prog 205 #[.slice A n c, .slice A' n' c'] w (RetNum2 (val xs / val ys) (val xs % val ys) w) := by
 by_cases h1 : n' = 1
 . subst h1
   obtain ⟨d, rfl⟩ : ∃ d, ys = [d] := by
    have := h'.len
    rcases ys with _ | ⟨d, _ | ⟨e, ys⟩⟩
    . cases this
    . exact ⟨d, rfl⟩
    . simp at this
   have e : val [d] = d := by simp [val]
   rw [e] at h0 ⊢
   exact rdivide_one A A' n c c' d xs w h h' hn h0
 . exact rdivide_long A A' n c n' c' xs ys w h h' hx hy hn hn' h1 h0
theorem rdivMod_bad1 (neg neg' : Bool) (A A' : Option Addr) (n c n' c' : Nat) (xs ys : List Nat) (w : World) (h : Sl w w.heap.size A n c xs) (h' : Sl w w.heap.size A' n' c' ys) (hv : vld neg xs = false) :
 Calls Tryz.prog 180 #[.agg #[.bool neg, .slice A n c], .agg #[.bool neg', .slice A' n' c']] w (RetI2E 0 0 1 w) := by
 go_enter Tryz.func180, Tryz.ntmps180
 go_wp2_with fail
 generalize hW : World.alloc (World.alloc (World.alloc (World.alloc w _) _) _) _ = W
 obtain ⟨hb, hz, b0, b1, b2, b3⟩ := div_boxes neg neg' A A' n c n' c' w W hW
 have hs := h.on hb
 have hs' := h'.on hb
 clear hW
 refine (rvalid_any _ _ _ _ _ xs _ hs (Nat.le_refl _)).mono ?_
 rintro e w1 ⟨rfl, hb1⟩
 have hz1 : w.heap.size + 1 + 1 + 1 < w1.heap.size := by have := hb1.size; omega
 have b1 := b1.below hb1 (by omega)
 have b2 := b2.below hb1 (by omega)
 have b3 := b3.below hb1 (by omega)
 have k1 := b1.c1
 have k3 := b2.c0
 have k4 := b2.c1
 have k5 := b2.f 0
 have k6 := b2.f 1
 have j3 := b3.c0
 have j4 := b3.c1
 have j5 := b3.f 0
 have j6 := b3.f 1
 generalize hr : w.heap.size = r at *
 have HRW := Lib.hid (And.intro hb hr)
 clear hb hr
 go_wp2
 exact bodyPost_ret (v := .tuple #[.agg #[.bool false, .slice none 0 0], .agg #[.bool false, .slice none 0 0], .int .i64 1]) (by simp [results, Tryz.results180, go_sem, k3, k4, j3, j4]) rfl
  ⟨none, 0, 0, [], none, 0, 0, [], rfl, Sl.nil _ _, Nz.nil, rfl, Sl.nil _ _, Nz.nil, rfl, by rw [HRW.out.2]; exact below_ret (below_ret (below_chain HRW.out.1 (by omega) hb1) (show r <= r + 1 + 1 by omega) _ _) (show r <= r + 1 + 1 + 1 by omega) _ _⟩
theorem rdivMod_bad2 (neg neg' : Bool) (A A' : Option Addr) (n c n' c' : Nat) (xs ys : List Nat) (w : World) (h : Sl w w.heap.size A n c xs) (h' : Sl w w.heap.size A' n' c' ys) (hv : vld neg xs = true) (hv' : vld neg' ys = false) :
 Calls Tryz.prog 180 #[.agg #[.bool neg, .slice A n c], .agg #[.bool neg', .slice A' n' c']] w (RetI2E 0 0 1 w) := by
 go_enter Tryz.func180, Tryz.ntmps180
 go_wp2_with fail
 generalize hW : World.alloc (World.alloc (World.alloc (World.alloc w _) _) _) _ = W
 obtain ⟨hb, hz, b0, b1, b2, b3⟩ := div_boxes neg neg' A A' n c n' c' w W hW
 have hs := h.on hb
 have hs' := h'.on hb
 clear hW
 refine (rvalid_any _ _ _ _ _ xs _ hs (Nat.le_refl _)).mono ?_
 rintro e w1 ⟨rfl, hb1⟩
 have hz1 : w.heap.size + 1 + 1 + 1 < w1.heap.size := by have := hb1.size; omega
 have b1 := b1.below hb1 (by omega)
 have b2 := b2.below hb1 (by omega)
 have b3 := b3.below hb1 (by omega)
 have q0 := b1.c0
 have q1 := b1.c1
 go_wp2_with fail
 refine (rvalid_any _ _ _ _ _ ys _ (hs'.on hb1) (Nat.le_refl _)).mono ?_
 rintro e w2 ⟨rfl, hb2⟩
 clear q0 q1
 have b1 := b1.below hb2 (by omega)
 have b2 := b2.below hb2 (by omega)
 have b3 := b3.below hb2 (by omega)
 have k1 := b1.c1
 have k3 := b2.c0
 have k4 := b2.c1
 have k5 := b2.f 0
 have k6 := b2.f 1
 have j3 := b3.c0
 have j4 := b3.c1
 have j5 := b3.f 0
 have j6 := b3.f 1
 generalize hr : w.heap.size = r at *
 have HRW := Lib.hid (And.intro hb hr)
 clear hb hr
 go_wp2
 exact bodyPost_ret (v := .tuple #[.agg #[.bool false, .slice none 0 0], .agg #[.bool false, .slice none 0 0], .int .i64 1]) (by simp [results, Tryz.results180, go_sem, k3, k4, j3, j4]) rfl
  ⟨none, 0, 0, [], none, 0, 0, [], rfl, Sl.nil _ _, Nz.nil, rfl, Sl.nil _ _, Nz.nil, rfl, by rw [HRW.out.2]; exact below_ret (below_ret (below_chain (below_chain HRW.out.1 (by omega) hb1) (by omega) hb2) (show r <= r + 1 + 1 by omega) _ _) (show r <= r + 1 + 1 + 1 by omega) _ _⟩
theorem rdivMod_zero (neg neg' : Bool) (A A' : Option Addr) (n c n' c' : Nat) (xs ys : List Nat) (w : World) (h : Sl w w.heap.size A n c xs) (h' : Sl w w.heap.size A' n' c' ys) (hv : vld neg xs = true) (hv' : vld neg' ys = true) (h0 : ys = []) :
 Calls Tryz.prog 180 #[.agg #[.bool neg, .slice A n c], .agg #[.bool neg', .slice A' n' c']] w (RetI2E 0 0 4 w) := by
 obtain rfl : n' = 0 := by have := h'.len; rw [h0] at this; simpa using this.symm
 clear h0
 go_enter Tryz.func180, Tryz.ntmps180
 go_wp2_with fail
 generalize hW : World.alloc (World.alloc (World.alloc (World.alloc w _) _) _) _ = W
 obtain ⟨hb, hz, b0, b1, b2, b3⟩ := div_boxes neg neg' A A' n c 0 c' w W hW
 have hs := h.on hb
 have hs' := h'.on hb
 clear hW
 refine (rvalid_any _ _ _ _ _ xs _ hs (Nat.le_refl _)).mono ?_
 rintro e w1 ⟨rfl, hb1⟩
 have hz1 : w.heap.size + 1 + 1 + 1 < w1.heap.size := by have := hb1.size; omega
 have b1 := b1.below hb1 (by omega)
 have b2 := b2.below hb1 (by omega)
 have b3 := b3.below hb1 (by omega)
 have q0 := b1.c0
 have q1 := b1.c1
 go_wp2_with fail
 refine (rvalid_any _ _ _ _ _ ys _ (hs'.on hb1) (Nat.le_refl _)).mono ?_
 rintro e w2 ⟨rfl, hb2⟩
 clear q0 q1
 have b1 := b1.below hb2 (by omega)
 have b2 := b2.below hb2 (by omega)
 have b3 := b3.below hb2 (by omega)
 have k1 := b1.c1
 have k3 := b2.c0
 have k4 := b2.c1
 have k5 := b2.f 0
 have k6 := b2.f 1
 have j3 := b3.c0
 have j4 := b3.c1
 have j5 := b3.f 0
 have j6 := b3.f 1
 generalize hr : w.heap.size = r at *
 have HRW := Lib.hid (And.intro hb hr)
 clear hb hr
 go_wp2
 exact bodyPost_ret (v := .tuple #[.agg #[.bool false, .slice none 0 0], .agg #[.bool false, .slice none 0 0], .int .i64 4]) (by simp [results, Tryz.results180, go_sem, k3, k4, j3, j4]) rfl
  ⟨none, 0, 0, [], none, 0, 0, [], rfl, Sl.nil _ _, Nz.nil, rfl, Sl.nil _ _, Nz.nil, rfl, by rw [HRW.out.2]; exact below_ret (below_ret (below_chain (below_chain HRW.out.1 (by omega) hb1) (by omega) hb2) (show r <= r + 1 + 1 by omega) _ _) (show r <= r + 1 + 1 + 1 by omega) _ _⟩
theorem rdivMod_ff (A A' : Option Addr) (n c n' c' : Nat) (xs ys : List Nat) (w : World) (h : Sl w w.heap.size A n c xs) (h' : Sl w w.heap.size A' n' c' ys)
 (hv : vld false xs = true) (hv' : vld false ys = true) (h0 : ys ≠ []) (zq zr : Int) (hzq : sg false (val xs / val ys : Nat) = zq) (hzr : sg false (val xs % val ys : Nat) = zr) (bq : zq.natAbs < BIG) (br : zr.natAbs < BIG) :
 Calls Tryz.prog 180 #[.agg #[.bool false, .slice A n c], .agg #[.bool false, .slice A' n' c']] w (RetI2E zq zr 0 w) := by
 have Hg := Lib.hid (And.intro (vld_true hv) (vld_true hv'))
 have hn0 : 0 < n' := by
  have := h'.len
  rcases Nat.eq_zero_or_pos n' with e | e
  . rw [e] at this; exact absurd (List.eq_nil_of_length_eq_zero this) h0
  . exact e
 have Hpos := Lib.hid (val_pos Hg.out.2.2.1 h0)
 have HZ := Lib.hid (And.intro hzq (And.intro hzr (And.intro bq br)))
 have Hlen := Lib.hid (And.intro h.len h'.len)
 clear h0 hzq hzr bq br
 have i4 : ((n' : Int) == 0) = false := by rw [beq_eq_false_iff_ne]; omega
 go_enter Tryz.func180, Tryz.ntmps180
 go_wp2_with fail
 generalize hW : World.alloc (World.alloc (World.alloc (World.alloc w _) _) _) _ = W
 obtain ⟨hb, hz, b0, b1, b2, b3⟩ := div_boxes false false A A' n c n' c' w W hW
 have hs := h.on hb
 have hs' := h'.on hb
 clear hW h h'
 generalize hr : w.heap.size = r at *
 have HB := Lib.hid hb
 have HR := Lib.hid hr
 clear hb hr
 refine (rvalid_any _ _ _ _ _ xs _ hs (Nat.le_refl _)).mono ?_
 rintro e w1 ⟨rfl, hb1⟩
 have hsz : r <= W.heap.size := Nat.le_of_lt b0.lt
 replace b0 := b0.below hb1 b0.lt
 replace b1 := b1.below hb1 b1.lt
 replace b2 := b2.below hb1 b2.lt
 replace b3 := b3.below hb1 b3.lt
 replace hs := hs.on hb1
 replace hs' := hs'.on hb1
 replace HB := Lib.hid (show Below r w w1 from below_chain HB.out hsz hb1)
 clear hb1 hsz
 have q0 := b1.c0
 have q1 := b1.c1
 go_wp2_with fail
 refine (rvalid_any _ _ _ _ _ ys _ hs' (Nat.le_refl _)).mono ?_
 rintro e w2 ⟨rfl, hb2⟩
 clear q0 q1
 have hsz : r <= w1.heap.size := Nat.le_of_lt b0.lt
 replace b0 := b0.below hb2 b0.lt
 replace b1 := b1.below hb2 b1.lt
 replace b2 := b2.below hb2 b2.lt
 replace b3 := b3.below hb2 b3.lt
 replace hs := hs.on hb2
 replace hs' := hs'.on hb2
 replace HB := Lib.hid (show Below r w w2 from below_chain HB.out hsz hb2)
 clear hb2 hsz
 have q0 := b0.c1
 have q1 := b1.c1
 go_wp2_with fail
 refine (rdivide_any _ _ _ _ _ _ xs ys _ hs hs' Hg.out.1.2.1 Hg.out.2.2.1 (by have := Hg.out.1.1; have := Hlen.out.1; omega) (by have := Hg.out.2.1; have := Hlen.out.2; omega) Hpos.out).mono ?_
 rintro e w3 ⟨A3, n3, c3, xs3, A4, n4, c4, xs4, rfl, hs3, hx3, hv3, hs4, hx4, hv4, hb3⟩
 clear q0 q1
 have hsz : r <= w2.heap.size := Nat.le_of_lt b0.lt
 replace b0 := b0.below hb3 b0.lt
 replace b1 := b1.below hb3 b1.lt
 replace b2 := b2.below hb3 b2.lt
 replace b3 := b3.below hb3 b3.lt
 replace hs := hs.on hb3
 replace hs' := hs'.on hb3
 replace HB := Lib.hid (show Below r w w3 from below_chain HB.out hsz hb3)
 clear hb3 hsz
 have Hv3 := Lib.hid (And.intro hx3 hv3)
 have Hv4 := Lib.hid (And.intro hx4 hv4)
 clear hx3 hv3 hx4 hv4
 have k0 := b0.c0
 have k1 := b1.c0
 have k2 := b1.c1
 have l0 := b0.lt
 have l1 := b1.lt
 go_wp2_with fail
 have C := fit_any false _ _ _ xs3 _ hs3 Hv3.out.1
 have hfq : fitZ (sg false (val xs3)) = zq /\ fitE (sg false (val xs3)) = 0 := by
  rw [Hv3.out.2]
  have := HZ.out.1
  rw [this]
  exact fit_yes HZ.out.2.2.1
 rw [hfq.1, hfq.2] at C
 clear hfq
 refine C.mono ?_
 clear C
 rintro e w8 ⟨A8, n8, c8, xs8, rfl, hs8, hx8, hv8, hb8⟩
 clear k0 k1 k2 l0 l1
 have hsz : r <= w3.heap.size := Nat.le_of_lt b0.lt
 replace b0 := b0.below hb8 b0.lt
 replace b1 := b1.below hb8 b1.lt
 replace b2 := b2.below hb8 b2.lt
 replace b3 := b3.below hb8 b3.lt
 replace hs4 := hs4.on hb8
 replace HB := Lib.hid (show Below r w w8 from below_chain HB.out hsz hb8)
 clear hb8 hsz
 have H8 := Lib.hid (And.intro hx8 hv8)
 clear hx8 hv8
 have k1 := b1.c0
 have l1 := b1.lt
 go_wp2_with fail
 clear k1 l1
 generalize hW : World.alloc w8 _ = V8
 have hbn : Below w8.heap.size w8 V8 := by rw [<- hW]; exact fresh_below _ _
 have x9 : Bx V8 w8.heap.size (decide (zq < 0)) A8 n8 c8 := by rw [<- hW]; exact Bx.new _ _ _ _ _
 have G9 := Lib.hid (And.intro b0.lt (And.intro b1.lt (And.intro b2.lt b3.lt)))
 clear hW
 have hsz : r <= w8.heap.size := Nat.le_of_lt b0.lt
 replace b0 := b0.below hbn b0.lt
 replace b1 := b1.below hbn b1.lt
 replace b2 := b2.below hbn b2.lt
 replace b3 := b3.below hbn b3.lt
 replace hs8 := hs8.on hbn
 replace hs4 := hs4.on hbn
 replace HB := Lib.hid (show Below r w V8 from below_chain HB.out hsz hbn)
 clear hbn hsz
 have C := fit_any false _ _ _ xs4 _ hs4 Hv4.out.1
 have hfr : fitZ (sg false (val xs4)) = zr /\ fitE (sg false (val xs4)) = 0 := by
  rw [Hv4.out.2]
  have := HZ.out.2.1
  rw [this]
  exact fit_yes HZ.out.2.2.2
 rw [hfr.1, hfr.2] at C
 clear hfr
 refine C.mono ?_
 clear C
 rintro e w9 ⟨A9, n9, c9, xs9, rfl, hs9, hx9, hv9, hb9⟩
 replace x9 := x9.below hb9 x9.lt
 have hsz : r <= V8.heap.size := Nat.le_of_lt b0.lt
 replace b0 := b0.below hb9 b0.lt
 replace b1 := b1.below hb9 b1.lt
 replace b2 := b2.below hb9 b2.lt
 replace b3 := b3.below hb9 b3.lt
 replace hs8 := hs8.on hb9
 replace HB := Lib.hid (show Below r w w9 from below_chain HB.out hsz hb9)
 clear hb9 hsz
 have H9 := Lib.hid (And.intro hx9 hv9)
 clear hx9 hv9
 go_wp2_with fail
 generalize hW : World.alloc w9 _ = V9
 have hbn : Below w9.heap.size w9 V9 := by rw [<- hW]; exact fresh_below _ _
 have x11 : Bx V9 w9.heap.size (decide (zr < 0)) A9 n9 c9 := by rw [<- hW]; exact Bx.new _ _ _ _ _
 have G11 := Lib.hid (And.intro x9.lt (And.intro b2.lt b3.lt))
 clear hW
 replace x9 := x9.below hbn x9.lt
 have hsz : r <= w9.heap.size := Nat.le_of_lt b0.lt
 replace b0 := b0.below hbn b0.lt
 replace b1 := b1.below hbn b1.lt
 replace b2 := b2.below hbn b2.lt
 replace b3 := b3.below hbn b3.lt
 replace hs8 := hs8.on hbn
 replace hs9 := hs9.on hbn
 replace HB := Lib.hid (show Below r w V9 from below_chain HB.out hsz hbn)
 clear hbn hsz
 generalize w8.heap.size = p at *
 generalize w9.heap.size = q at *
 have g1 := G9.out
 have g2 := G11.out
 have HW := Lib.hid (And.intro b2 b3)
 have k0 := x9.c0
 have k1 := x9.c1
 have k2 := x11.c0
 have k3 := x11.c1
 have k4 := b2.c0
 have k5 := b2.c1
 have k6 := b2.f 0
 have k7 := b2.f 1
 have k8 := b3.c0
 have k9 := b3.c1
 have k10 := b3.f 0
 have k11 := b3.f 1
 have e1 : p ≠ r + 1 + 1 := by omega
 have e2 : p ≠ r + 1 + 1 + 1 := by omega
 have e3 : q ≠ r + 1 + 1 := by omega
 have e4 : q ≠ r + 1 + 1 + 1 := by omega
 have e5 := e1.symm
 have e6 := e2.symm
 have e7 := e3.symm
 have e8 := e4.symm
 clear g1 g2
 go_region
 all_goals go_wp2
 refine bodyPost_ret (v := .tuple #[.agg #[.bool (decide (zq < 0)), .slice A8 n8 c8], .agg #[.bool (decide (zr < 0)), .slice A9 n9 c9], .int .i64 0]) (by simp [results, Tryz.results180, go_sem, k4, k5, k8, k9]) rfl
  ⟨A8, n8, c8, xs8, A9, n9, c9, xs9, rfl, (hs8.ret2 HW.out.1 HW.out.2 (by omega) _ _ _ _).drew, H8.out.1, H8.out.2, (hs9.ret2 HW.out.1 HW.out.2 (by omega) _ _ _ _).drew, H9.out.1, H9.out.2, by rw [HR.out]; exact (below_ret (below_ret HB.out (show r <= r + 1 + 1 by omega) _ _) (show r <= r + 1 + 1 + 1 by omega) _ _).drew⟩
theorem rdivMod_tt (A A' : Option Addr) (n c n' c' : Nat) (xs ys : List Nat) (w : World) (h : Sl w w.heap.size A n c xs) (h' : Sl w w.heap.size A' n' c' ys)
 (hv : vld true xs = true) (hv' : vld true ys = true) (h0 : ys ≠ []) (zq zr : Int) (hzq : sg false (val xs / val ys : Nat) = zq) (hzr : sg true (val xs % val ys : Nat) = zr) (bq : zq.natAbs < BIG) (br : zr.natAbs < BIG) :
 Calls Tryz.prog 180 #[.agg #[.bool true, .slice A n c], .agg #[.bool true, .slice A' n' c']] w (RetI2E zq zr 0 w) := by
 have Hg := Lib.hid (And.intro (vld_true hv) (vld_true hv'))
 have hn0 : 0 < n' := by
  have := h'.len
  rcases Nat.eq_zero_or_pos n' with e | e
  . rw [e] at this; exact absurd (List.eq_nil_of_length_eq_zero this) h0
  . exact e
 have Hpos := Lib.hid (val_pos Hg.out.2.2.1 h0)
 have HZ := Lib.hid (And.intro hzq (And.intro hzr (And.intro bq br)))
 have Hlen := Lib.hid (And.intro h.len h'.len)
 clear h0 hzq hzr bq br
 have i4 : ((n' : Int) == 0) = false := by rw [beq_eq_false_iff_ne]; omega
 go_enter Tryz.func180, Tryz.ntmps180
 go_wp2_with fail
 generalize hW : World.alloc (World.alloc (World.alloc (World.alloc w _) _) _) _ = W
 obtain ⟨hb, hz, b0, b1, b2, b3⟩ := div_boxes true true A A' n c n' c' w W hW
 have hs := h.on hb
 have hs' := h'.on hb
 clear hW h h'
 generalize hr : w.heap.size = r at *
 have HB := Lib.hid hb
 have HR := Lib.hid hr
 clear hb hr
 refine (rvalid_any _ _ _ _ _ xs _ hs (Nat.le_refl _)).mono ?_
 rintro e w1 ⟨rfl, hb1⟩
 have hsz : r <= W.heap.size := Nat.le_of_lt b0.lt
 replace b0 := b0.below hb1 b0.lt
 replace b1 := b1.below hb1 b1.lt
 replace b2 := b2.below hb1 b2.lt
 replace b3 := b3.below hb1 b3.lt
 replace hs := hs.on hb1
 replace hs' := hs'.on hb1
 replace HB := Lib.hid (show Below r w w1 from below_chain HB.out hsz hb1)
 clear hb1 hsz
 have q0 := b1.c0
 have q1 := b1.c1
 go_wp2_with fail
 refine (rvalid_any _ _ _ _ _ ys _ hs' (Nat.le_refl _)).mono ?_
 rintro e w2 ⟨rfl, hb2⟩
 clear q0 q1
 have hsz : r <= w1.heap.size := Nat.le_of_lt b0.lt
 replace b0 := b0.below hb2 b0.lt
 replace b1 := b1.below hb2 b1.lt
 replace b2 := b2.below hb2 b2.lt
 replace b3 := b3.below hb2 b3.lt
 replace hs := hs.on hb2
 replace hs' := hs'.on hb2
 replace HB := Lib.hid (show Below r w w2 from below_chain HB.out hsz hb2)
 clear hb2 hsz
 have q0 := b0.c1
 have q1 := b1.c1
 go_wp2_with fail
 refine (rdivide_any _ _ _ _ _ _ xs ys _ hs hs' Hg.out.1.2.1 Hg.out.2.2.1 (by have := Hg.out.1.1; have := Hlen.out.1; omega) (by have := Hg.out.2.1; have := Hlen.out.2; omega) Hpos.out).mono ?_
 rintro e w3 ⟨A3, n3, c3, xs3, A4, n4, c4, xs4, rfl, hs3, hx3, hv3, hs4, hx4, hv4, hb3⟩
 clear q0 q1
 have hsz : r <= w2.heap.size := Nat.le_of_lt b0.lt
 replace b0 := b0.below hb3 b0.lt
 replace b1 := b1.below hb3 b1.lt
 replace b2 := b2.below hb3 b2.lt
 replace b3 := b3.below hb3 b3.lt
 replace hs := hs.on hb3
 replace hs' := hs'.on hb3
 replace HB := Lib.hid (show Below r w w3 from below_chain HB.out hsz hb3)
 clear hb3 hsz
 have Hv3 := Lib.hid (And.intro hx3 hv3)
 have Hv4 := Lib.hid (And.intro hx4 hv4)
 clear hx3 hv3 hx4 hv4
 have k0 := b0.c0
 have k1 := b1.c0
 have k2 := b1.c1
 have l0 := b0.lt
 have l1 := b1.lt
 go_wp2_with fail
 have C := fit_any false _ _ _ xs3 _ hs3 Hv3.out.1
 have hfq : fitZ (sg false (val xs3)) = zq /\ fitE (sg false (val xs3)) = 0 := by
  rw [Hv3.out.2]
  have := HZ.out.1
  rw [this]
  exact fit_yes HZ.out.2.2.1
 rw [hfq.1, hfq.2] at C
 clear hfq
 refine C.mono ?_
 clear C
 rintro e w8 ⟨A8, n8, c8, xs8, rfl, hs8, hx8, hv8, hb8⟩
 clear k0 k1 k2 l0 l1
 have hsz : r <= w3.heap.size := Nat.le_of_lt b0.lt
 replace b0 := b0.below hb8 b0.lt
 replace b1 := b1.below hb8 b1.lt
 replace b2 := b2.below hb8 b2.lt
 replace b3 := b3.below hb8 b3.lt
 replace hs4 := hs4.on hb8
 replace HB := Lib.hid (show Below r w w8 from below_chain HB.out hsz hb8)
 clear hb8 hsz
 have H8 := Lib.hid (And.intro hx8 hv8)
 clear hx8 hv8
 have k1 := b1.c0
 have l1 := b1.lt
 go_wp2_with fail
 clear k1 l1
 generalize hW : World.alloc w8 _ = V8
 have hbn : Below w8.heap.size w8 V8 := by rw [<- hW]; exact fresh_below _ _
 have x9 : Bx V8 w8.heap.size (decide (zq < 0)) A8 n8 c8 := by rw [<- hW]; exact Bx.new _ _ _ _ _
 have G9 := Lib.hid (And.intro b0.lt (And.intro b1.lt (And.intro b2.lt b3.lt)))
 clear hW
 have hsz : r <= w8.heap.size := Nat.le_of_lt b0.lt
 replace b0 := b0.below hbn b0.lt
 replace b1 := b1.below hbn b1.lt
 replace b2 := b2.below hbn b2.lt
 replace b3 := b3.below hbn b3.lt
 replace hs8 := hs8.on hbn
 replace hs4 := hs4.on hbn
 replace HB := Lib.hid (show Below r w V8 from below_chain HB.out hsz hbn)
 clear hbn hsz
 have C := fit_any true _ _ _ xs4 _ hs4 Hv4.out.1
 have hfr : fitZ (sg true (val xs4)) = zr /\ fitE (sg true (val xs4)) = 0 := by
  rw [Hv4.out.2]
  have := HZ.out.2.1
  rw [this]
  exact fit_yes HZ.out.2.2.2
 rw [hfr.1, hfr.2] at C
 clear hfr
 refine C.mono ?_
 clear C
 rintro e w9 ⟨A9, n9, c9, xs9, rfl, hs9, hx9, hv9, hb9⟩
 replace x9 := x9.below hb9 x9.lt
 have hsz : r <= V8.heap.size := Nat.le_of_lt b0.lt
 replace b0 := b0.below hb9 b0.lt
 replace b1 := b1.below hb9 b1.lt
 replace b2 := b2.below hb9 b2.lt
 replace b3 := b3.below hb9 b3.lt
 replace hs8 := hs8.on hb9
 replace HB := Lib.hid (show Below r w w9 from below_chain HB.out hsz hb9)
 clear hb9 hsz
 have H9 := Lib.hid (And.intro hx9 hv9)
 clear hx9 hv9
 go_wp2_with fail
 generalize hW : World.alloc w9 _ = V9
 have hbn : Below w9.heap.size w9 V9 := by rw [<- hW]; exact fresh_below _ _
 have x11 : Bx V9 w9.heap.size (decide (zr < 0)) A9 n9 c9 := by rw [<- hW]; exact Bx.new _ _ _ _ _
 have G11 := Lib.hid (And.intro x9.lt (And.intro b2.lt b3.lt))
 clear hW
 replace x9 := x9.below hbn x9.lt
 have hsz : r <= w9.heap.size := Nat.le_of_lt b0.lt
 replace b0 := b0.below hbn b0.lt
 replace b1 := b1.below hbn b1.lt
 replace b2 := b2.below hbn b2.lt
 replace b3 := b3.below hbn b3.lt
 replace hs8 := hs8.on hbn
 replace hs9 := hs9.on hbn
 replace HB := Lib.hid (show Below r w V9 from below_chain HB.out hsz hbn)
 clear hbn hsz
 generalize w8.heap.size = p at *
 generalize w9.heap.size = q at *
 have g1 := G9.out
 have g2 := G11.out
 have HW := Lib.hid (And.intro b2 b3)
 have k0 := x9.c0
 have k1 := x9.c1
 have k2 := x11.c0
 have k3 := x11.c1
 have k4 := b2.c0
 have k5 := b2.c1
 have k6 := b2.f 0
 have k7 := b2.f 1
 have k8 := b3.c0
 have k9 := b3.c1
 have k10 := b3.f 0
 have k11 := b3.f 1
 have e1 : p ≠ r + 1 + 1 := by omega
 have e2 : p ≠ r + 1 + 1 + 1 := by omega
 have e3 : q ≠ r + 1 + 1 := by omega
 have e4 : q ≠ r + 1 + 1 + 1 := by omega
 have e5 := e1.symm
 have e6 := e2.symm
 have e7 := e3.symm
 have e8 := e4.symm
 clear g1 g2
 go_region
 all_goals go_wp2
 refine bodyPost_ret (v := .tuple #[.agg #[.bool (decide (zq < 0)), .slice A8 n8 c8], .agg #[.bool (decide (zr < 0)), .slice A9 n9 c9], .int .i64 0]) (by simp [results, Tryz.results180, go_sem, k4, k5, k8, k9]) rfl
  ⟨A8, n8, c8, xs8, A9, n9, c9, xs9, rfl, (hs8.ret2 HW.out.1 HW.out.2 (by omega) _ _ _ _).drew, H8.out.1, H8.out.2, (hs9.ret2 HW.out.1 HW.out.2 (by omega) _ _ _ _).drew, H9.out.1, H9.out.2, by rw [HR.out]; exact (below_ret (below_ret HB.out (show r <= r + 1 + 1 by omega) _ _) (show r <= r + 1 + 1 + 1 by omega) _ _).drew⟩
theorem rdivMod_ft (A A' : Option Addr) (n c n' c' : Nat) (xs ys : List Nat) (w : World) (h : Sl w w.heap.size A n c xs) (h' : Sl w w.heap.size A' n' c' ys)
 (hv : vld false xs = true) (hv' : vld true ys = true) (h0 : ys ≠ []) (hk : val xs % val ys = 0) (zq zr : Int) (hzq : sg true (val xs / val ys : Nat) = zq) (hzr : sg true (val xs % val ys : Nat) = zr) (bq : zq.natAbs < BIG) (br : zr.natAbs < BIG) :
 Calls Tryz.prog 180 #[.agg #[.bool false, .slice A n c], .agg #[.bool true, .slice A' n' c']] w (RetI2E zq zr 0 w) := by
 have Hg := Lib.hid (And.intro (vld_true hv) (vld_true hv'))
 have hn0 : 0 < n' := by
  have := h'.len
  rcases Nat.eq_zero_or_pos n' with e | e
  . rw [e] at this; exact absurd (List.eq_nil_of_length_eq_zero this) h0
  . exact e
 have Hpos := Lib.hid (val_pos Hg.out.2.2.1 h0)
 have HZ := Lib.hid (And.intro hzq (And.intro hzr (And.intro bq br)))
 have Hlen := Lib.hid (And.intro h.len h'.len)
 clear h0 hzq hzr bq br
 have Hk := Lib.hid hk
 clear hk
 have i4 : ((n' : Int) == 0) = false := by rw [beq_eq_false_iff_ne]; omega
 go_enter Tryz.func180, Tryz.ntmps180
 go_wp2_with fail
 generalize hW : World.alloc (World.alloc (World.alloc (World.alloc w _) _) _) _ = W
 obtain ⟨hb, hz, b0, b1, b2, b3⟩ := div_boxes false true A A' n c n' c' w W hW
 have hs := h.on hb
 have hs' := h'.on hb
 clear hW h h'
 generalize hr : w.heap.size = r at *
 have HB := Lib.hid hb
 have HR := Lib.hid hr
 clear hb hr
 refine (rvalid_any _ _ _ _ _ xs _ hs (Nat.le_refl _)).mono ?_
 rintro e w1 ⟨rfl, hb1⟩
 have hsz : r <= W.heap.size := Nat.le_of_lt b0.lt
 replace b0 := b0.below hb1 b0.lt
 replace b1 := b1.below hb1 b1.lt
 replace b2 := b2.below hb1 b2.lt
 replace b3 := b3.below hb1 b3.lt
 replace hs := hs.on hb1
 replace hs' := hs'.on hb1
 replace HB := Lib.hid (show Below r w w1 from below_chain HB.out hsz hb1)
 clear hb1 hsz
 have q0 := b1.c0
 have q1 := b1.c1
 go_wp2_with fail
 refine (rvalid_any _ _ _ _ _ ys _ hs' (Nat.le_refl _)).mono ?_
 rintro e w2 ⟨rfl, hb2⟩
 clear q0 q1
 have hsz : r <= w1.heap.size := Nat.le_of_lt b0.lt
 replace b0 := b0.below hb2 b0.lt
 replace b1 := b1.below hb2 b1.lt
 replace b2 := b2.below hb2 b2.lt
 replace b3 := b3.below hb2 b3.lt
 replace hs := hs.on hb2
 replace hs' := hs'.on hb2
 replace HB := Lib.hid (show Below r w w2 from below_chain HB.out hsz hb2)
 clear hb2 hsz
 have q0 := b0.c1
 have q1 := b1.c1
 go_wp2_with fail
 refine (rdivide_any _ _ _ _ _ _ xs ys _ hs hs' Hg.out.1.2.1 Hg.out.2.2.1 (by have := Hg.out.1.1; have := Hlen.out.1; omega) (by have := Hg.out.2.1; have := Hlen.out.2; omega) Hpos.out).mono ?_
 rintro e w3 ⟨A3, n3, c3, xs3, A4, n4, c4, xs4, rfl, hs3, hx3, hv3, hs4, hx4, hv4, hb3⟩
 clear q0 q1
 have hsz : r <= w2.heap.size := Nat.le_of_lt b0.lt
 replace b0 := b0.below hb3 b0.lt
 replace b1 := b1.below hb3 b1.lt
 replace b2 := b2.below hb3 b2.lt
 replace b3 := b3.below hb3 b3.lt
 replace hs := hs.on hb3
 replace hs' := hs'.on hb3
 replace HB := Lib.hid (show Below r w w3 from below_chain HB.out hsz hb3)
 clear hb3 hsz
 have Hv3 := Lib.hid (And.intro hx3 hv3)
 have Hv4 := Lib.hid (And.intro hx4 hv4)
 clear hx3 hv3 hx4 hv4
 have hn4 : n4 = 0 := by
  have e := val_zero Hv4.out.1 (by rw [Hv4.out.2, Hk.out])
  have := hs4.len
  rw [e] at this
  exact this.symm
 have hn4' : (n4 : Int) <= 0 := by omega
 clear hn4
 have k0 := b0.c0
 have k1 := b1.c0
 have k2 := b1.c1
 have l0 := b0.lt
 have l1 := b1.lt
 go_wp2_with fail
 have C := fit_any true _ _ _ xs3 _ hs3 Hv3.out.1
 have hfq : fitZ (sg true (val xs3)) = zq /\ fitE (sg true (val xs3)) = 0 := by
  rw [Hv3.out.2]
  have := HZ.out.1
  rw [this]
  exact fit_yes HZ.out.2.2.1
 rw [hfq.1, hfq.2] at C
 clear hfq
 refine C.mono ?_
 clear C
 rintro e w8 ⟨A8, n8, c8, xs8, rfl, hs8, hx8, hv8, hb8⟩
 clear k0 k1 k2 l0 l1
 have hsz : r <= w3.heap.size := Nat.le_of_lt b0.lt
 replace b0 := b0.below hb8 b0.lt
 replace b1 := b1.below hb8 b1.lt
 replace b2 := b2.below hb8 b2.lt
 replace b3 := b3.below hb8 b3.lt
 replace hs4 := hs4.on hb8
 replace HB := Lib.hid (show Below r w w8 from below_chain HB.out hsz hb8)
 clear hb8 hsz
 have H8 := Lib.hid (And.intro hx8 hv8)
 clear hx8 hv8
 have k1 := b1.c0
 have l1 := b1.lt
 go_wp2_with fail
 clear k1 l1
 generalize hW : World.alloc w8 _ = V8
 have hbn : Below w8.heap.size w8 V8 := by rw [<- hW]; exact fresh_below _ _
 have x9 : Bx V8 w8.heap.size (decide (zq < 0)) A8 n8 c8 := by rw [<- hW]; exact Bx.new _ _ _ _ _
 have G9 := Lib.hid (And.intro b0.lt (And.intro b1.lt (And.intro b2.lt b3.lt)))
 clear hW
 have hsz : r <= w8.heap.size := Nat.le_of_lt b0.lt
 replace b0 := b0.below hbn b0.lt
 replace b1 := b1.below hbn b1.lt
 replace b2 := b2.below hbn b2.lt
 replace b3 := b3.below hbn b3.lt
 replace hs8 := hs8.on hbn
 replace hs4 := hs4.on hbn
 replace HB := Lib.hid (show Below r w V8 from below_chain HB.out hsz hbn)
 clear hbn hsz
 have C := fit_any true _ _ _ xs4 _ hs4 Hv4.out.1
 have hfr : fitZ (sg true (val xs4)) = zr /\ fitE (sg true (val xs4)) = 0 := by
  rw [Hv4.out.2]
  have := HZ.out.2.1
  rw [this]
  exact fit_yes HZ.out.2.2.2
 rw [hfr.1, hfr.2] at C
 clear hfr
 refine C.mono ?_
 clear C
 rintro e w9 ⟨A9, n9, c9, xs9, rfl, hs9, hx9, hv9, hb9⟩
 replace x9 := x9.below hb9 x9.lt
 have hsz : r <= V8.heap.size := Nat.le_of_lt b0.lt
 replace b0 := b0.below hb9 b0.lt
 replace b1 := b1.below hb9 b1.lt
 replace b2 := b2.below hb9 b2.lt
 replace b3 := b3.below hb9 b3.lt
 replace hs8 := hs8.on hb9
 replace HB := Lib.hid (show Below r w w9 from below_chain HB.out hsz hb9)
 clear hb9 hsz
 have H9 := Lib.hid (And.intro hx9 hv9)
 clear hx9 hv9
 go_wp2_with fail
 generalize hW : World.alloc w9 _ = V9
 have hbn : Below w9.heap.size w9 V9 := by rw [<- hW]; exact fresh_below _ _
 have x11 : Bx V9 w9.heap.size (decide (zr < 0)) A9 n9 c9 := by rw [<- hW]; exact Bx.new _ _ _ _ _
 have G11 := Lib.hid (And.intro x9.lt (And.intro b2.lt b3.lt))
 clear hW
 replace x9 := x9.below hbn x9.lt
 have hsz : r <= w9.heap.size := Nat.le_of_lt b0.lt
 replace b0 := b0.below hbn b0.lt
 replace b1 := b1.below hbn b1.lt
 replace b2 := b2.below hbn b2.lt
 replace b3 := b3.below hbn b3.lt
 replace hs8 := hs8.on hbn
 replace hs9 := hs9.on hbn
 replace HB := Lib.hid (show Below r w V9 from below_chain HB.out hsz hbn)
 clear hbn hsz
 generalize w8.heap.size = p at *
 generalize w9.heap.size = q at *
 have g1 := G9.out
 have g2 := G11.out
 have HW := Lib.hid (And.intro b2 b3)
 have k0 := x9.c0
 have k1 := x9.c1
 have k2 := x11.c0
 have k3 := x11.c1
 have k4 := b2.c0
 have k5 := b2.c1
 have k6 := b2.f 0
 have k7 := b2.f 1
 have k8 := b3.c0
 have k9 := b3.c1
 have k10 := b3.f 0
 have k11 := b3.f 1
 have e1 : p ≠ r + 1 + 1 := by omega
 have e2 : p ≠ r + 1 + 1 + 1 := by omega
 have e3 : q ≠ r + 1 + 1 := by omega
 have e4 : q ≠ r + 1 + 1 + 1 := by omega
 have e5 := e1.symm
 have e6 := e2.symm
 have e7 := e3.symm
 have e8 := e4.symm
 clear g1 g2
 go_region
 all_goals go_wp2
 refine bodyPost_ret (v := .tuple #[.agg #[.bool (decide (zq < 0)), .slice A8 n8 c8], .agg #[.bool (decide (zr < 0)), .slice A9 n9 c9], .int .i64 0]) (by simp [results, Tryz.results180, go_sem, k4, k5, k8, k9]) rfl
  ⟨A8, n8, c8, xs8, A9, n9, c9, xs9, rfl, (hs8.ret2 HW.out.1 HW.out.2 (by omega) _ _ _ _).drew, H8.out.1, H8.out.2, (hs9.ret2 HW.out.1 HW.out.2 (by omega) _ _ _ _).drew, H9.out.1, H9.out.2, by rw [HR.out]; exact (below_ret (below_ret HB.out (show r <= r + 1 + 1 by omega) _ _) (show r <= r + 1 + 1 + 1 by omega) _ _).drew⟩
theorem rdivMod_tf (A A' : Option Addr) (n c n' c' : Nat) (xs ys : List Nat) (w : World) (h : Sl w w.heap.size A n c xs) (h' : Sl w w.heap.size A' n' c' ys)
 (hv : vld true xs = true) (hv' : vld false ys = true) (h0 : ys ≠ []) (hk : val xs % val ys = 0) (zq zr : Int) (hzq : sg true (val xs / val ys : Nat) = zq) (hzr : sg false (val xs % val ys : Nat) = zr) (bq : zq.natAbs < BIG) (br : zr.natAbs < BIG) :
 Calls Tryz.prog 180 #[.agg #[.bool true, .slice A n c], .agg #[.bool false, .slice A' n' c']] w (RetI2E zq zr 0 w) := by
 have Hg := Lib.hid (And.intro (vld_true hv) (vld_true hv'))
 have hn0 : 0 < n' := by
  have := h'.len
  rcases Nat.eq_zero_or_pos n' with e | e
  . rw [e] at this; exact absurd (List.eq_nil_of_length_eq_zero this) h0
  . exact e
 have Hpos := Lib.hid (val_pos Hg.out.2.2.1 h0)
 have HZ := Lib.hid (And.intro hzq (And.intro hzr (And.intro bq br)))
 have Hlen := Lib.hid (And.intro h.len h'.len)
 clear h0 hzq hzr bq br
 have Hk := Lib.hid hk
 clear hk
 have i4 : ((n' : Int) == 0) = false := by rw [beq_eq_false_iff_ne]; omega
 go_enter Tryz.func180, Tryz.ntmps180
 go_wp2_with fail
 generalize hW : World.alloc (World.alloc (World.alloc (World.alloc w _) _) _) _ = W
 obtain ⟨hb, hz, b0, b1, b2, b3⟩ := div_boxes true false A A' n c n' c' w W hW
 have hs := h.on hb
 have hs' := h'.on hb
 clear hW h h'
 generalize hr : w.heap.size = r at *
 have HB := Lib.hid hb
 have HR := Lib.hid hr
 clear hb hr
 refine (rvalid_any _ _ _ _ _ xs _ hs (Nat.le_refl _)).mono ?_
 rintro e w1 ⟨rfl, hb1⟩
 have hsz : r <= W.heap.size := Nat.le_of_lt b0.lt
 replace b0 := b0.below hb1 b0.lt
 replace b1 := b1.below hb1 b1.lt
 replace b2 := b2.below hb1 b2.lt
 replace b3 := b3.below hb1 b3.lt
 replace hs := hs.on hb1
 replace hs' := hs'.on hb1
 replace HB := Lib.hid (show Below r w w1 from below_chain HB.out hsz hb1)
 clear hb1 hsz
 have q0 := b1.c0
 have q1 := b1.c1
 go_wp2_with fail
 refine (rvalid_any _ _ _ _ _ ys _ hs' (Nat.le_refl _)).mono ?_
 rintro e w2 ⟨rfl, hb2⟩
 clear q0 q1
 have hsz : r <= w1.heap.size := Nat.le_of_lt b0.lt
 replace b0 := b0.below hb2 b0.lt
 replace b1 := b1.below hb2 b1.lt
 replace b2 := b2.below hb2 b2.lt
 replace b3 := b3.below hb2 b3.lt
 replace hs := hs.on hb2
 replace hs' := hs'.on hb2
 replace HB := Lib.hid (show Below r w w2 from below_chain HB.out hsz hb2)
 clear hb2 hsz
 have q0 := b0.c1
 have q1 := b1.c1
 go_wp2_with fail
 refine (rdivide_any _ _ _ _ _ _ xs ys _ hs hs' Hg.out.1.2.1 Hg.out.2.2.1 (by have := Hg.out.1.1; have := Hlen.out.1; omega) (by have := Hg.out.2.1; have := Hlen.out.2; omega) Hpos.out).mono ?_
 rintro e w3 ⟨A3, n3, c3, xs3, A4, n4, c4, xs4, rfl, hs3, hx3, hv3, hs4, hx4, hv4, hb3⟩
 clear q0 q1
 have hsz : r <= w2.heap.size := Nat.le_of_lt b0.lt
 replace b0 := b0.below hb3 b0.lt
 replace b1 := b1.below hb3 b1.lt
 replace b2 := b2.below hb3 b2.lt
 replace b3 := b3.below hb3 b3.lt
 replace hs := hs.on hb3
 replace hs' := hs'.on hb3
 replace HB := Lib.hid (show Below r w w3 from below_chain HB.out hsz hb3)
 clear hb3 hsz
 have Hv3 := Lib.hid (And.intro hx3 hv3)
 have Hv4 := Lib.hid (And.intro hx4 hv4)
 clear hx3 hv3 hx4 hv4
 have hn4 : n4 = 0 := by
  have e := val_zero Hv4.out.1 (by rw [Hv4.out.2, Hk.out])
  have := hs4.len
  rw [e] at this
  exact this.symm
 have hn4' : (n4 : Int) <= 0 := by omega
 clear hn4
 have k0 := b0.c0
 have k1 := b1.c0
 have k2 := b1.c1
 have l0 := b0.lt
 have l1 := b1.lt
 go_wp2_with fail
 have C := fit_any true _ _ _ xs3 _ hs3 Hv3.out.1
 have hfq : fitZ (sg true (val xs3)) = zq /\ fitE (sg true (val xs3)) = 0 := by
  rw [Hv3.out.2]
  have := HZ.out.1
  rw [this]
  exact fit_yes HZ.out.2.2.1
 rw [hfq.1, hfq.2] at C
 clear hfq
 refine C.mono ?_
 clear C
 rintro e w8 ⟨A8, n8, c8, xs8, rfl, hs8, hx8, hv8, hb8⟩
 clear k0 k1 k2 l0 l1
 have hsz : r <= w3.heap.size := Nat.le_of_lt b0.lt
 replace b0 := b0.below hb8 b0.lt
 replace b1 := b1.below hb8 b1.lt
 replace b2 := b2.below hb8 b2.lt
 replace b3 := b3.below hb8 b3.lt
 replace hs4 := hs4.on hb8
 replace HB := Lib.hid (show Below r w w8 from below_chain HB.out hsz hb8)
 clear hb8 hsz
 have H8 := Lib.hid (And.intro hx8 hv8)
 clear hx8 hv8
 have k1 := b1.c0
 have l1 := b1.lt
 go_wp2_with fail
 clear k1 l1
 generalize hW : World.alloc w8 _ = V8
 have hbn : Below w8.heap.size w8 V8 := by rw [<- hW]; exact fresh_below _ _
 have x9 : Bx V8 w8.heap.size (decide (zq < 0)) A8 n8 c8 := by rw [<- hW]; exact Bx.new _ _ _ _ _
 have G9 := Lib.hid (And.intro b0.lt (And.intro b1.lt (And.intro b2.lt b3.lt)))
 clear hW
 have hsz : r <= w8.heap.size := Nat.le_of_lt b0.lt
 replace b0 := b0.below hbn b0.lt
 replace b1 := b1.below hbn b1.lt
 replace b2 := b2.below hbn b2.lt
 replace b3 := b3.below hbn b3.lt
 replace hs8 := hs8.on hbn
 replace hs4 := hs4.on hbn
 replace HB := Lib.hid (show Below r w V8 from below_chain HB.out hsz hbn)
 clear hbn hsz
 have C := fit_any false _ _ _ xs4 _ hs4 Hv4.out.1
 have hfr : fitZ (sg false (val xs4)) = zr /\ fitE (sg false (val xs4)) = 0 := by
  rw [Hv4.out.2]
  have := HZ.out.2.1
  rw [this]
  exact fit_yes HZ.out.2.2.2
 rw [hfr.1, hfr.2] at C
 clear hfr
 refine C.mono ?_
 clear C
 rintro e w9 ⟨A9, n9, c9, xs9, rfl, hs9, hx9, hv9, hb9⟩
 replace x9 := x9.below hb9 x9.lt
 have hsz : r <= V8.heap.size := Nat.le_of_lt b0.lt
 replace b0 := b0.below hb9 b0.lt
 replace b1 := b1.below hb9 b1.lt
 replace b2 := b2.below hb9 b2.lt
 replace b3 := b3.below hb9 b3.lt
 replace hs8 := hs8.on hb9
 replace HB := Lib.hid (show Below r w w9 from below_chain HB.out hsz hb9)
 clear hb9 hsz
 have H9 := Lib.hid (And.intro hx9 hv9)
 clear hx9 hv9
 go_wp2_with fail
 generalize hW : World.alloc w9 _ = V9
 have hbn : Below w9.heap.size w9 V9 := by rw [<- hW]; exact fresh_below _ _
 have x11 : Bx V9 w9.heap.size (decide (zr < 0)) A9 n9 c9 := by rw [<- hW]; exact Bx.new _ _ _ _ _
 have G11 := Lib.hid (And.intro x9.lt (And.intro b2.lt b3.lt))
 clear hW
 replace x9 := x9.below hbn x9.lt
 have hsz : r <= w9.heap.size := Nat.le_of_lt b0.lt
 replace b0 := b0.below hbn b0.lt
 replace b1 := b1.below hbn b1.lt
 replace b2 := b2.below hbn b2.lt
 replace b3 := b3.below hbn b3.lt
 replace hs8 := hs8.on hbn
 replace hs9 := hs9.on hbn
 replace HB := Lib.hid (show Below r w V9 from below_chain HB.out hsz hbn)
 clear hbn hsz
 generalize w8.heap.size = p at *
 generalize w9.heap.size = q at *
 have g1 := G9.out
 have g2 := G11.out
 have HW := Lib.hid (And.intro b2 b3)
 have k0 := x9.c0
 have k1 := x9.c1
 have k2 := x11.c0
 have k3 := x11.c1
 have k4 := b2.c0
 have k5 := b2.c1
 have k6 := b2.f 0
 have k7 := b2.f 1
 have k8 := b3.c0
 have k9 := b3.c1
 have k10 := b3.f 0
 have k11 := b3.f 1
 have e1 : p ≠ r + 1 + 1 := by omega
 have e2 : p ≠ r + 1 + 1 + 1 := by omega
 have e3 : q ≠ r + 1 + 1 := by omega
 have e4 : q ≠ r + 1 + 1 + 1 := by omega
 have e5 := e1.symm
 have e6 := e2.symm
 have e7 := e3.symm
 have e8 := e4.symm
 clear g1 g2
 go_region
 all_goals go_wp2
 refine bodyPost_ret (v := .tuple #[.agg #[.bool (decide (zq < 0)), .slice A8 n8 c8], .agg #[.bool (decide (zr < 0)), .slice A9 n9 c9], .int .i64 0]) (by simp [results, Tryz.results180, go_sem, k4, k5, k8, k9]) rfl
  ⟨A8, n8, c8, xs8, A9, n9, c9, xs9, rfl, (hs8.ret2 HW.out.1 HW.out.2 (by omega) _ _ _ _).drew, H8.out.1, H8.out.2, (hs9.ret2 HW.out.1 HW.out.2 (by omega) _ _ _ _).drew, H9.out.1, H9.out.2, by rw [HR.out]; exact (below_ret (below_ret HB.out (show r <= r + 1 + 1 by omega) _ _) (show r <= r + 1 + 1 + 1 by omega) _ _).drew⟩
theorem rdivMod_ft1 (A A' : Option Addr) (n c n' c' : Nat) (xs ys : List Nat) (w : World) (h : Sl w w.heap.size A n c xs) (h' : Sl w w.heap.size A' n' c' ys)
 (hv : vld false xs = true) (hv' : vld true ys = true) (h0 : ys ≠ []) (hk : 0 < val xs % val ys) (zq zr : Int) (hzq : sg true (val xs / val ys + 1 : Nat) = zq) (hzr : sg true (val ys - val xs % val ys : Nat) = zr) (bq : zq.natAbs < BIG) (br : zr.natAbs < BIG) :
 Calls Tryz.prog 180 #[.agg #[.bool false, .slice A n c], .agg #[.bool true, .slice A' n' c']] w (RetI2E zq zr 0 w) := by
 have Hg := Lib.hid (And.intro (vld_true hv) (vld_true hv'))
 have hn0 : 0 < n' := by
  have := h'.len
  rcases Nat.eq_zero_or_pos n' with e | e
  . rw [e] at this; exact absurd (List.eq_nil_of_length_eq_zero this) h0
  . exact e
 have Hpos := Lib.hid (val_pos Hg.out.2.2.1 h0)
 have HZ := Lib.hid (And.intro hzq (And.intro hzr (And.intro bq br)))
 have Hlen := Lib.hid (And.intro h.len h'.len)
 clear h0 hzq hzr bq br
 have Hk := Lib.hid hk
 clear hk
 have i4 : ((n' : Int) == 0) = false := by rw [beq_eq_false_iff_ne]; omega
 go_enter Tryz.func180, Tryz.ntmps180
 go_wp2_with fail
 generalize hW : World.alloc (World.alloc (World.alloc (World.alloc w _) _) _) _ = W
 obtain ⟨hb, hz, b0, b1, b2, b3⟩ := div_boxes false true A A' n c n' c' w W hW
 have hs := h.on hb
 have hs' := h'.on hb
 clear hW h h'
 generalize hr : w.heap.size = r at *
 have HB := Lib.hid hb
 have HR := Lib.hid hr
 clear hb hr
 refine (rvalid_any _ _ _ _ _ xs _ hs (Nat.le_refl _)).mono ?_
 rintro e w1 ⟨rfl, hb1⟩
 have hsz : r <= W.heap.size := Nat.le_of_lt b0.lt
 replace b0 := b0.below hb1 b0.lt
 replace b1 := b1.below hb1 b1.lt
 replace b2 := b2.below hb1 b2.lt
 replace b3 := b3.below hb1 b3.lt
 replace hs := hs.on hb1
 replace hs' := hs'.on hb1
 replace HB := Lib.hid (show Below r w w1 from below_chain HB.out hsz hb1)
 clear hb1 hsz
 have q0 := b1.c0
 have q1 := b1.c1
 go_wp2_with fail
 refine (rvalid_any _ _ _ _ _ ys _ hs' (Nat.le_refl _)).mono ?_
 rintro e w2 ⟨rfl, hb2⟩
 clear q0 q1
 have hsz : r <= w1.heap.size := Nat.le_of_lt b0.lt
 replace b0 := b0.below hb2 b0.lt
 replace b1 := b1.below hb2 b1.lt
 replace b2 := b2.below hb2 b2.lt
 replace b3 := b3.below hb2 b3.lt
 replace hs := hs.on hb2
 replace hs' := hs'.on hb2
 replace HB := Lib.hid (show Below r w w2 from below_chain HB.out hsz hb2)
 clear hb2 hsz
 have q0 := b0.c1
 have q1 := b1.c1
 go_wp2_with fail
 refine (rdivide_any _ _ _ _ _ _ xs ys _ hs hs' Hg.out.1.2.1 Hg.out.2.2.1 (by have := Hg.out.1.1; have := Hlen.out.1; omega) (by have := Hg.out.2.1; have := Hlen.out.2; omega) Hpos.out).mono ?_
 rintro e w3 ⟨A3, n3, c3, xs3, A4, n4, c4, xs4, rfl, hs3, hx3, hv3, hs4, hx4, hv4, hb3⟩
 clear q0 q1
 have hsz : r <= w2.heap.size := Nat.le_of_lt b0.lt
 replace b0 := b0.below hb3 b0.lt
 replace b1 := b1.below hb3 b1.lt
 replace b2 := b2.below hb3 b2.lt
 replace b3 := b3.below hb3 b3.lt
 replace hs := hs.on hb3
 replace hs' := hs'.on hb3
 replace HB := Lib.hid (show Below r w w3 from below_chain HB.out hsz hb3)
 clear hb3 hsz
 have Hv3 := Lib.hid (And.intro hx3 hv3)
 have Hv4 := Lib.hid (And.intro hx4 hv4)
 clear hx3 hv3 hx4 hv4
 have hn4 : (0 : Int) < (n4 : Int) := by
  have a := Hv4.out.2
  have e := Hk.out
  rcases Nat.eq_zero_or_pos n4 with h | h
  . have := hs4.len
    rw [h] at this
    rw [List.eq_nil_of_length_eq_zero this, val_nil] at a
    omega
  . omega
 have k0 := b0.c0
 have k1 := b1.c0
 have k2 := b1.c1
 have l0 := b0.lt
 have l1 := b1.lt
 go_wp2_with fail
 have hn39 : n3 <= 1000000 := by
  have a := length_le Hv3.out.1 (n := n) (by
   rw [Hv3.out.2]
   have := val_lt hs.ok
   rw [Hlen.out.1] at this
   exact Nat.lt_of_le_of_lt (Nat.div_le_self _ _) this)
  have := hs3.len
  have := Hg.out.1.1
  have := Hlen.out.1
  omega
 have hf := fresh_below w3 (.cells #[.int .u32 1] 44)
 have hs3' := hs3.on hf
 have hone := sl_one w3
 refine (rplus_any _ _ _ _ _ _ _ _ _ hs3' hone hn39 (by omega)).mono ?_
 rintro e w4 ⟨A5, n5, c5, xs5, rfl, hs5, hx5, hv5, hb4⟩
 clear k0 k1 k2 l0 l1
 have hbn := below_chain hf hf.size hb4
 clear hf hs3' hone hb4
 have hsz : r <= w3.heap.size := Nat.le_of_lt b0.lt
 replace b0 := b0.below hbn b0.lt
 replace b1 := b1.below hbn b1.lt
 replace b2 := b2.below hbn b2.lt
 replace b3 := b3.below hbn b3.lt
 replace hs := hs.on hbn
 replace hs' := hs'.on hbn
 replace hs4 := hs4.on hbn
 replace HB := Lib.hid (show Below r w w4 from below_chain HB.out hsz hbn)
 clear hbn hsz
 have Hv5 := Lib.hid (And.intro hx5 hv5)
 clear hx5 hv5
 have k0 := b0.c0
 have k1 := b1.c0
 have k2 := b1.c1
 have l0 := b0.lt
 have l1 := b1.lt
 go_wp2_with fail
 refine (rminus_any _ _ _ _ _ _ _ _ _ hs' hs4 Hv4.out.1 (by rw [Hv4.out.2]; exact Nat.le_of_lt (Nat.mod_lt _ Hpos.out))).mono ?_
 rintro e w5 ⟨A6, n6, c6, xs6, rfl, hs6, hx6, hv6, hb5⟩
 clear k0 k1 k2 l0 l1
 have hsz : r <= w4.heap.size := Nat.le_of_lt b0.lt
 replace b0 := b0.below hb5 b0.lt
 replace b1 := b1.below hb5 b1.lt
 replace b2 := b2.below hb5 b2.lt
 replace b3 := b3.below hb5 b3.lt
 replace hs := hs.on hb5
 replace hs' := hs'.on hb5
 replace hs5 := hs5.on hb5
 replace HB := Lib.hid (show Below r w w5 from below_chain HB.out hsz hb5)
 clear hb5 hsz
 have Hv6 := Lib.hid (And.intro hx6 hv6)
 clear hx6 hv6
 have k0 := b0.c0
 have k1 := b1.c0
 have k2 := b1.c1
 have l0 := b0.lt
 have l1 := b1.lt
 go_wp2_with fail
 have C := fit_any true _ _ _ xs5 _ hs5 Hv5.out.1
 have hfq : fitZ (sg true (val xs5)) = zq /\ fitE (sg true (val xs5)) = 0 := by
  rw [Hv5.out.2, Hv3.out.2, show val [1] = 1 by simp [val]]
  have := HZ.out.1
  rw [this]
  exact fit_yes HZ.out.2.2.1
 rw [hfq.1, hfq.2] at C
 clear hfq
 refine C.mono ?_
 clear C
 rintro e w8 ⟨A8, n8, c8, xs8, rfl, hs8, hx8, hv8, hb8⟩
 clear k0 k1 k2 l0 l1
 have hsz : r <= w5.heap.size := Nat.le_of_lt b0.lt
 replace b0 := b0.below hb8 b0.lt
 replace b1 := b1.below hb8 b1.lt
 replace b2 := b2.below hb8 b2.lt
 replace b3 := b3.below hb8 b3.lt
 replace hs6 := hs6.on hb8
 replace HB := Lib.hid (show Below r w w8 from below_chain HB.out hsz hb8)
 clear hb8 hsz
 have H8 := Lib.hid (And.intro hx8 hv8)
 clear hx8 hv8
 have k1 := b1.c0
 have l1 := b1.lt
 go_wp2_with fail
 clear k1 l1
 generalize hW : World.alloc w8 _ = V8
 have hbn : Below w8.heap.size w8 V8 := by rw [<- hW]; exact fresh_below _ _
 have x9 : Bx V8 w8.heap.size (decide (zq < 0)) A8 n8 c8 := by rw [<- hW]; exact Bx.new _ _ _ _ _
 have G9 := Lib.hid (And.intro b0.lt (And.intro b1.lt (And.intro b2.lt b3.lt)))
 clear hW
 have hsz : r <= w8.heap.size := Nat.le_of_lt b0.lt
 replace b0 := b0.below hbn b0.lt
 replace b1 := b1.below hbn b1.lt
 replace b2 := b2.below hbn b2.lt
 replace b3 := b3.below hbn b3.lt
 replace hs8 := hs8.on hbn
 replace hs6 := hs6.on hbn
 replace HB := Lib.hid (show Below r w V8 from below_chain HB.out hsz hbn)
 clear hbn hsz
 have C := fit_any true _ _ _ xs6 _ hs6 Hv6.out.1
 have hfr : fitZ (sg true (val xs6)) = zr /\ fitE (sg true (val xs6)) = 0 := by
  rw [Hv6.out.2, Hv4.out.2]
  have := HZ.out.2.1
  rw [this]
  exact fit_yes HZ.out.2.2.2
 rw [hfr.1, hfr.2] at C
 clear hfr
 refine C.mono ?_
 clear C
 rintro e w9 ⟨A9, n9, c9, xs9, rfl, hs9, hx9, hv9, hb9⟩
 replace x9 := x9.below hb9 x9.lt
 have hsz : r <= V8.heap.size := Nat.le_of_lt b0.lt
 replace b0 := b0.below hb9 b0.lt
 replace b1 := b1.below hb9 b1.lt
 replace b2 := b2.below hb9 b2.lt
 replace b3 := b3.below hb9 b3.lt
 replace hs8 := hs8.on hb9
 replace HB := Lib.hid (show Below r w w9 from below_chain HB.out hsz hb9)
 clear hb9 hsz
 have H9 := Lib.hid (And.intro hx9 hv9)
 clear hx9 hv9
 go_wp2_with fail
 generalize hW : World.alloc w9 _ = V9
 have hbn : Below w9.heap.size w9 V9 := by rw [<- hW]; exact fresh_below _ _
 have x11 : Bx V9 w9.heap.size (decide (zr < 0)) A9 n9 c9 := by rw [<- hW]; exact Bx.new _ _ _ _ _
 have G11 := Lib.hid (And.intro x9.lt (And.intro b2.lt b3.lt))
 clear hW
 replace x9 := x9.below hbn x9.lt
 have hsz : r <= w9.heap.size := Nat.le_of_lt b0.lt
 replace b0 := b0.below hbn b0.lt
 replace b1 := b1.below hbn b1.lt
 replace b2 := b2.below hbn b2.lt
 replace b3 := b3.below hbn b3.lt
 replace hs8 := hs8.on hbn
 replace hs9 := hs9.on hbn
 replace HB := Lib.hid (show Below r w V9 from below_chain HB.out hsz hbn)
 clear hbn hsz
 generalize w8.heap.size = p at *
 generalize w9.heap.size = q at *
 have g1 := G9.out
 have g2 := G11.out
 have HW := Lib.hid (And.intro b2 b3)
 have k0 := x9.c0
 have k1 := x9.c1
 have k2 := x11.c0
 have k3 := x11.c1
 have k4 := b2.c0
 have k5 := b2.c1
 have k6 := b2.f 0
 have k7 := b2.f 1
 have k8 := b3.c0
 have k9 := b3.c1
 have k10 := b3.f 0
 have k11 := b3.f 1
 have e1 : p ≠ r + 1 + 1 := by omega
 have e2 : p ≠ r + 1 + 1 + 1 := by omega
 have e3 : q ≠ r + 1 + 1 := by omega
 have e4 : q ≠ r + 1 + 1 + 1 := by omega
 have e5 := e1.symm
 have e6 := e2.symm
 have e7 := e3.symm
 have e8 := e4.symm
 clear g1 g2
 go_region
 all_goals go_wp2
 refine bodyPost_ret (v := .tuple #[.agg #[.bool (decide (zq < 0)), .slice A8 n8 c8], .agg #[.bool (decide (zr < 0)), .slice A9 n9 c9], .int .i64 0]) (by simp [results, Tryz.results180, go_sem, k4, k5, k8, k9]) rfl
  ⟨A8, n8, c8, xs8, A9, n9, c9, xs9, rfl, (hs8.ret2 HW.out.1 HW.out.2 (by omega) _ _ _ _).drew, H8.out.1, H8.out.2, (hs9.ret2 HW.out.1 HW.out.2 (by omega) _ _ _ _).drew, H9.out.1, H9.out.2, by rw [HR.out]; exact (below_ret (below_ret HB.out (show r <= r + 1 + 1 by omega) _ _) (show r <= r + 1 + 1 + 1 by omega) _ _).drew⟩
theorem rdivMod_tf1 (A A' : Option Addr) (n c n' c' : Nat) (xs ys : List Nat) (w : World) (h : Sl w w.heap.size A n c xs) (h' : Sl w w.heap.size A' n' c' ys)
 (hv : vld true xs = true) (hv' : vld false ys = true) (h0 : ys ≠ []) (hk : 0 < val xs % val ys) (zq zr : Int) (hzq : sg true (val xs / val ys + 1 : Nat) = zq) (hzr : sg false (val ys - val xs % val ys : Nat) = zr) (bq : zq.natAbs < BIG) (br : zr.natAbs < BIG) :
 Calls Tryz.prog 180 #[.agg #[.bool true, .slice A n c], .agg #[.bool false, .slice A' n' c']] w (RetI2E zq zr 0 w) := by
 have Hg := Lib.hid (And.intro (vld_true hv) (vld_true hv'))
 have hn0 : 0 < n' := by
  have := h'.len
  rcases Nat.eq_zero_or_pos n' with e | e
  . rw [e] at this; exact absurd (List.eq_nil_of_length_eq_zero this) h0
  . exact e
 have Hpos := Lib.hid (val_pos Hg.out.2.2.1 h0)
 have HZ := Lib.hid (And.intro hzq (And.intro hzr (And.intro bq br)))
 have Hlen := Lib.hid (And.intro h.len h'.len)
 clear h0 hzq hzr bq br
 have Hk := Lib.hid hk
 clear hk
 have i4 : ((n' : Int) == 0) = false := by rw [beq_eq_false_iff_ne]; omega
 go_enter Tryz.func180, Tryz.ntmps180
 go_wp2_with fail
 generalize hW : World.alloc (World.alloc (World.alloc (World.alloc w _) _) _) _ = W
 obtain ⟨hb, hz, b0, b1, b2, b3⟩ := div_boxes true false A A' n c n' c' w W hW
 have hs := h.on hb
 have hs' := h'.on hb
 clear hW h h'
 generalize hr : w.heap.size = r at *
 have HB := Lib.hid hb
 have HR := Lib.hid hr
 clear hb hr
 refine (rvalid_any _ _ _ _ _ xs _ hs (Nat.le_refl _)).mono ?_
 rintro e w1 ⟨rfl, hb1⟩
 have hsz : r <= W.heap.size := Nat.le_of_lt b0.lt
 replace b0 := b0.below hb1 b0.lt
 replace b1 := b1.below hb1 b1.lt
 replace b2 := b2.below hb1 b2.lt
 replace b3 := b3.below hb1 b3.lt
 replace hs := hs.on hb1
 replace hs' := hs'.on hb1
 replace HB := Lib.hid (show Below r w w1 from below_chain HB.out hsz hb1)
 clear hb1 hsz
 have q0 := b1.c0
 have q1 := b1.c1
 go_wp2_with fail
 refine (rvalid_any _ _ _ _ _ ys _ hs' (Nat.le_refl _)).mono ?_
 rintro e w2 ⟨rfl, hb2⟩
 clear q0 q1
 have hsz : r <= w1.heap.size := Nat.le_of_lt b0.lt
 replace b0 := b0.below hb2 b0.lt
 replace b1 := b1.below hb2 b1.lt
 replace b2 := b2.below hb2 b2.lt
 replace b3 := b3.below hb2 b3.lt
 replace hs := hs.on hb2
 replace hs' := hs'.on hb2
 replace HB := Lib.hid (show Below r w w2 from below_chain HB.out hsz hb2)
 clear hb2 hsz
 have q0 := b0.c1
 have q1 := b1.c1
 go_wp2_with fail
 refine (rdivide_any _ _ _ _ _ _ xs ys _ hs hs' Hg.out.1.2.1 Hg.out.2.2.1 (by have := Hg.out.1.1; have := Hlen.out.1; omega) (by have := Hg.out.2.1; have := Hlen.out.2; omega) Hpos.out).mono ?_
 rintro e w3 ⟨A3, n3, c3, xs3, A4, n4, c4, xs4, rfl, hs3, hx3, hv3, hs4, hx4, hv4, hb3⟩
 clear q0 q1
 have hsz : r <= w2.heap.size := Nat.le_of_lt b0.lt
 replace b0 := b0.below hb3 b0.lt
 replace b1 := b1.below hb3 b1.lt
 replace b2 := b2.below hb3 b2.lt
 replace b3 := b3.below hb3 b3.lt
 replace hs := hs.on hb3
 replace hs' := hs'.on hb3
 replace HB := Lib.hid (show Below r w w3 from below_chain HB.out hsz hb3)
 clear hb3 hsz
 have Hv3 := Lib.hid (And.intro hx3 hv3)
 have Hv4 := Lib.hid (And.intro hx4 hv4)
 clear hx3 hv3 hx4 hv4
 have hn4 : (0 : Int) < (n4 : Int) := by
  have a := Hv4.out.2
  have e := Hk.out
  rcases Nat.eq_zero_or_pos n4 with h | h
  . have := hs4.len
    rw [h] at this
    rw [List.eq_nil_of_length_eq_zero this, val_nil] at a
    omega
  . omega
 have k0 := b0.c0
 have k1 := b1.c0
 have k2 := b1.c1
 have l0 := b0.lt
 have l1 := b1.lt
 go_wp2_with fail
 have hn39 : n3 <= 1000000 := by
  have a := length_le Hv3.out.1 (n := n) (by
   rw [Hv3.out.2]
   have := val_lt hs.ok
   rw [Hlen.out.1] at this
   exact Nat.lt_of_le_of_lt (Nat.div_le_self _ _) this)
  have := hs3.len
  have := Hg.out.1.1
  have := Hlen.out.1
  omega
 have hf := fresh_below w3 (.cells #[.int .u32 1] 44)
 have hs3' := hs3.on hf
 have hone := sl_one w3
 refine (rplus_any _ _ _ _ _ _ _ _ _ hs3' hone hn39 (by omega)).mono ?_
 rintro e w4 ⟨A5, n5, c5, xs5, rfl, hs5, hx5, hv5, hb4⟩
 clear k0 k1 k2 l0 l1
 have hbn := below_chain hf hf.size hb4
 clear hf hs3' hone hb4
 have hsz : r <= w3.heap.size := Nat.le_of_lt b0.lt
 replace b0 := b0.below hbn b0.lt
 replace b1 := b1.below hbn b1.lt
 replace b2 := b2.below hbn b2.lt
 replace b3 := b3.below hbn b3.lt
 replace hs := hs.on hbn
 replace hs' := hs'.on hbn
 replace hs4 := hs4.on hbn
 replace HB := Lib.hid (show Below r w w4 from below_chain HB.out hsz hbn)
 clear hbn hsz
 have Hv5 := Lib.hid (And.intro hx5 hv5)
 clear hx5 hv5
 have k0 := b0.c0
 have k1 := b1.c0
 have k2 := b1.c1
 have l0 := b0.lt
 have l1 := b1.lt
 go_wp2_with fail
 refine (rminus_any _ _ _ _ _ _ _ _ _ hs' hs4 Hv4.out.1 (by rw [Hv4.out.2]; exact Nat.le_of_lt (Nat.mod_lt _ Hpos.out))).mono ?_
 rintro e w5 ⟨A6, n6, c6, xs6, rfl, hs6, hx6, hv6, hb5⟩
 clear k0 k1 k2 l0 l1
 have hsz : r <= w4.heap.size := Nat.le_of_lt b0.lt
 replace b0 := b0.below hb5 b0.lt
 replace b1 := b1.below hb5 b1.lt
 replace b2 := b2.below hb5 b2.lt
 replace b3 := b3.below hb5 b3.lt
 replace hs := hs.on hb5
 replace hs' := hs'.on hb5
 replace hs5 := hs5.on hb5
 replace HB := Lib.hid (show Below r w w5 from below_chain HB.out hsz hb5)
 clear hb5 hsz
 have Hv6 := Lib.hid (And.intro hx6 hv6)
 clear hx6 hv6
 have k0 := b0.c0
 have k1 := b1.c0
 have k2 := b1.c1
 have l0 := b0.lt
 have l1 := b1.lt
 go_wp2_with fail
 have C := fit_any true _ _ _ xs5 _ hs5 Hv5.out.1
 have hfq : fitZ (sg true (val xs5)) = zq /\ fitE (sg true (val xs5)) = 0 := by
  rw [Hv5.out.2, Hv3.out.2, show val [1] = 1 by simp [val]]
  have := HZ.out.1
  rw [this]
  exact fit_yes HZ.out.2.2.1
 rw [hfq.1, hfq.2] at C
 clear hfq
 refine C.mono ?_
 clear C
 rintro e w8 ⟨A8, n8, c8, xs8, rfl, hs8, hx8, hv8, hb8⟩
 clear k0 k1 k2 l0 l1
 have hsz : r <= w5.heap.size := Nat.le_of_lt b0.lt
 replace b0 := b0.below hb8 b0.lt
 replace b1 := b1.below hb8 b1.lt
 replace b2 := b2.below hb8 b2.lt
 replace b3 := b3.below hb8 b3.lt
 replace hs6 := hs6.on hb8
 replace HB := Lib.hid (show Below r w w8 from below_chain HB.out hsz hb8)
 clear hb8 hsz
 have H8 := Lib.hid (And.intro hx8 hv8)
 clear hx8 hv8
 have k1 := b1.c0
 have l1 := b1.lt
 go_wp2_with fail
 clear k1 l1
 generalize hW : World.alloc w8 _ = V8
 have hbn : Below w8.heap.size w8 V8 := by rw [<- hW]; exact fresh_below _ _
 have x9 : Bx V8 w8.heap.size (decide (zq < 0)) A8 n8 c8 := by rw [<- hW]; exact Bx.new _ _ _ _ _
 have G9 := Lib.hid (And.intro b0.lt (And.intro b1.lt (And.intro b2.lt b3.lt)))
 clear hW
 have hsz : r <= w8.heap.size := Nat.le_of_lt b0.lt
 replace b0 := b0.below hbn b0.lt
 replace b1 := b1.below hbn b1.lt
 replace b2 := b2.below hbn b2.lt
 replace b3 := b3.below hbn b3.lt
 replace hs8 := hs8.on hbn
 replace hs6 := hs6.on hbn
 replace HB := Lib.hid (show Below r w V8 from below_chain HB.out hsz hbn)
 clear hbn hsz
 have C := fit_any false _ _ _ xs6 _ hs6 Hv6.out.1
 have hfr : fitZ (sg false (val xs6)) = zr /\ fitE (sg false (val xs6)) = 0 := by
  rw [Hv6.out.2, Hv4.out.2]
  have := HZ.out.2.1
  rw [this]
  exact fit_yes HZ.out.2.2.2
 rw [hfr.1, hfr.2] at C
 clear hfr
 refine C.mono ?_
 clear C
 rintro e w9 ⟨A9, n9, c9, xs9, rfl, hs9, hx9, hv9, hb9⟩
 replace x9 := x9.below hb9 x9.lt
 have hsz : r <= V8.heap.size := Nat.le_of_lt b0.lt
 replace b0 := b0.below hb9 b0.lt
 replace b1 := b1.below hb9 b1.lt
 replace b2 := b2.below hb9 b2.lt
 replace b3 := b3.below hb9 b3.lt
 replace hs8 := hs8.on hb9
 replace HB := Lib.hid (show Below r w w9 from below_chain HB.out hsz hb9)
 clear hb9 hsz
 have H9 := Lib.hid (And.intro hx9 hv9)
 clear hx9 hv9
 go_wp2_with fail
 generalize hW : World.alloc w9 _ = V9
 have hbn : Below w9.heap.size w9 V9 := by rw [<- hW]; exact fresh_below _ _
 have x11 : Bx V9 w9.heap.size (decide (zr < 0)) A9 n9 c9 := by rw [<- hW]; exact Bx.new _ _ _ _ _
 have G11 := Lib.hid (And.intro x9.lt (And.intro b2.lt b3.lt))
 clear hW
 replace x9 := x9.below hbn x9.lt
 have hsz : r <= w9.heap.size := Nat.le_of_lt b0.lt
 replace b0 := b0.below hbn b0.lt
 replace b1 := b1.below hbn b1.lt
 replace b2 := b2.below hbn b2.lt
 replace b3 := b3.below hbn b3.lt
 replace hs8 := hs8.on hbn
 replace hs9 := hs9.on hbn
 replace HB := Lib.hid (show Below r w V9 from below_chain HB.out hsz hbn)
 clear hbn hsz
 generalize w8.heap.size = p at *
 generalize w9.heap.size = q at *
 have g1 := G9.out
 have g2 := G11.out
 have HW := Lib.hid (And.intro b2 b3)
 have k0 := x9.c0
 have k1 := x9.c1
 have k2 := x11.c0
 have k3 := x11.c1
 have k4 := b2.c0
 have k5 := b2.c1
 have k6 := b2.f 0
 have k7 := b2.f 1
 have k8 := b3.c0
 have k9 := b3.c1
 have k10 := b3.f 0
 have k11 := b3.f 1
 have e1 : p ≠ r + 1 + 1 := by omega
 have e2 : p ≠ r + 1 + 1 + 1 := by omega
 have e3 : q ≠ r + 1 + 1 := by omega
 have e4 : q ≠ r + 1 + 1 + 1 := by omega
 have e5 := e1.symm
 have e6 := e2.symm
 have e7 := e3.symm
 have e8 := e4.symm
 clear g1 g2
 go_region
 all_goals go_wp2
 refine bodyPost_ret (v := .tuple #[.agg #[.bool (decide (zq < 0)), .slice A8 n8 c8], .agg #[.bool (decide (zr < 0)), .slice A9 n9 c9], .int .i64 0]) (by simp [results, Tryz.results180, go_sem, k4, k5, k8, k9]) rfl
  ⟨A8, n8, c8, xs8, A9, n9, c9, xs9, rfl, (hs8.ret2 HW.out.1 HW.out.2 (by omega) _ _ _ _).drew, H8.out.1, H8.out.2, (hs9.ret2 HW.out.1 HW.out.2 (by omega) _ _ _ _).drew, H9.out.1, H9.out.2, by rw [HR.out]; exact (below_ret (below_ret HB.out (show r <= r + 1 + 1 by omega) _ _) (show r <= r + 1 + 1 + 1 by omega) _ _).drew⟩
end Go.Proofs.YtmncfbfepdbioaaGreatDoor
namespace Go.Proofs.YtmncfbfepdbioaaGreatDoor
open Go.RowKit
theorem rdivMod_good (neg neg' : Bool) (A A' : Option Addr) (n c n' c' : Nat) (xs ys : List Nat) (w : World) (h : Sl w w.heap.size A n c xs) (h' : Sl w w.heap.size A' n' c' ys)
 (hv : vld neg xs = true) (hv' : vld neg' ys = true) (h0 : ys ≠ []) :
 Calls Tryz.prog 180 #[.agg #[.bool neg, .slice A n c], .agg #[.bool neg', .slice A' n' c']] w (RetI2E (dq neg neg' (val xs) (val ys)) (dr neg neg' (val xs) (val ys)) 0 w) := by
 have v := vld_true hv
 have v' := vld_true hv'
 have bx : val xs < BIG := (big_iff h.ok v.2.1).2 v.1
 have by' : val ys < BIG := (big_iff h'.ok v'.2.1).2 v'.1
 have s := dq_spec neg neg' (val xs) (val ys) (val_pos v'.2.1 h0)
 have bq := Nat.lt_of_le_of_lt s.2.2.2 bx
 have br := Nat.lt_trans s.2.1 by'
 cases neg <;> cases neg'
 . exact rdivMod_ff A A' n c n' c' xs ys w h h' hv hv' h0 _ _ (by rw [dq, if_neg (by simp)]; rfl) (by rw [dr, if_neg (by simp)]) bq br
 . rcases Nat.eq_zero_or_pos (val xs % val ys) with hk | hk
   . exact rdivMod_ft A A' n c n' c' xs ys w h h' hv hv' h0 hk _ _ (by rw [dq, if_neg (by omega)]; rfl) (by rw [dr, if_neg (by omega)]) bq br
   . exact rdivMod_ft1 A A' n c n' c' xs ys w h h' hv hv' h0 hk _ _ (by rw [dq, if_pos ⟨rfl, hk⟩]) (by rw [dr, if_pos ⟨rfl, hk⟩]) bq br
 . rcases Nat.eq_zero_or_pos (val xs % val ys) with hk | hk
   . exact rdivMod_tf A A' n c n' c' xs ys w h h' hv hv' h0 hk _ _ (by rw [dq, if_neg (by omega)]; rfl) (by rw [dr, if_neg (by omega)]) bq br
   . exact rdivMod_tf1 A A' n c n' c' xs ys w h h' hv hv' h0 hk _ _ (by rw [dq, if_pos ⟨rfl, hk⟩]) (by rw [dr, if_pos ⟨rfl, hk⟩]) bq br
 . exact rdivMod_tt A A' n c n' c' xs ys w h h' hv hv' h0 _ _ (by rw [dq, if_neg (by simp)]; rfl) (by rw [dr, if_neg (by simp)]) bq br
theorem rdivMod_ov {neg neg' : Bool} {A A' : Option Addr} {n c n' c' : Nat} {xs ys : List Nat} {w : World} (h : Sl w w.heap.size A n c xs) (h' : Sl w w.heap.size A' n' c' ys) :
 Calls Tryz.prog 180 #[.agg #[.bool neg, .slice A n c], .agg #[.bool neg', .slice A' n' c']] w (RetI2E (dvQ (ov neg xs) (ov neg' ys)) (dvR (ov neg xs) (ov neg' ys)) (dvE (ov neg xs) (ov neg' ys)) w) := by
 rcases hv : vld neg xs with _ | _
 . rw [ov_none hv]
   exact rdivMod_bad1 neg neg' A A' n c n' c' xs ys w h h' hv
 . rcases hv' : vld neg' ys with _ | _
   . rw [ov_none hv', ov_some hv]
     exact rdivMod_bad2 neg neg' A A' n c n' c' xs ys w h h' hv hv'
   . have v' := vld_true hv'
     rw [ov_some hv, ov_some hv']
     by_cases h0 : ys = []
     . have e : sg neg' (val ys) = 0 := by rw [h0, v'.2.2 h0, sg_false, val_nil]; rfl
       rw [dvQ_some, dvR_some, dvE_some]
       rw [if_pos e, if_pos e, if_pos e]
       exact rdivMod_zero neg neg' A A' n c n' c' xs ys w h h' hv hv' h0
     . have hp := val_pos v'.2.1 h0
       have e : ¬ sg neg' (val ys) = 0 := by
        intro e
        have := congrArg Int.natAbs e
        rw [sg_abs] at this
        simp at this; omega
       rw [dvQ_some, dvR_some, dvE_some]
       rw [if_neg e, if_neg e, if_neg e]
       have hd := rdivMod_good neg neg' A A' n c n' c' xs ys w h h' hv hv' h0
       unfold fq fr
       rw [sg_sign hv, sg_sign hv', sg_abs, sg_abs]
       exact hd
end Go.Proofs.YtmncfbfepdbioaaGreatDoor
