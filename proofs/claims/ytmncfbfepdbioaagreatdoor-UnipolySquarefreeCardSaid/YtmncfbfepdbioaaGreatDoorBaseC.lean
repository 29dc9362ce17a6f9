/-
 Written by mkbase.py: Works, LawValid, RefSubs, LawSums, LawOrder, CmpZ, LawOrder, Chain, Bits, Shl, SubP, TakeD, DivLong, DivZ, LawDiv2, Shift, Sqrt, SqrtZ, Small, SmallZ.
-/
import Derived.Deep.DeepCutAuto
import Derived.Deep.RegionHeld3
import Derived.Deep.LoopGhost
import Derived.Test.YtmncfbfepdbioaaGreatDoorBaseP
import Derived.Test.YtmncfbfepdbioaaGreatDoorShelf
set_option maxHeartbeats 4000000
set_option maxRecDepth 100000
namespace Go.Proofs.YtmncfbfepdbioaaGreatDoor
open Go.RowKit
theorem vld_of {neg : Bool} {xs : List Nat} (hx : Ok xs) (nx : Nz xs) (hb : val xs < BIG) (h : neg = true -> 0 < val xs) : vld neg xs = true := by
 have hl := (big_iff hx nx).1 hb
 unfold vld
 by_cases h0 : xs.length = 0
 . rw [if_pos h0]
   have e : xs = [] := List.eq_nil_of_length_eq_zero h0
   subst e
   cases neg with
   | false => rfl
   | true => exact absurd (h rfl) (by simp [val])
 . rw [if_neg h0]
   have hne : xs ≠ [] := by rintro rfl; exact h0 rfl
   have := (nz_iff hne).1 nx
   simp only [Bool.and_eq_true, decide_eq_true_eq, Bool.not_eq_true', beq_eq_false_iff_ne]
   exact ⟨hl, this⟩
theorem below_new (w : World) (o : Obj) : Below w.heap.size w (w.alloc o) := (Below.refl _ _).alloc (Nat.le_refl _) _
end Go.Proofs.YtmncfbfepdbioaaGreatDoor
namespace Go.Proofs.YtmncfbfepdbioaaGreatDoor
open Go.RowKit
structure Ba (w : World) (r : Nat) (neg : Bool) (A : Option Addr) (n c : Nat) (xs : List Nat) : Prop where
 bx : Bx w r neg A n c
 sl : Sl w w.heap.size A n c xs
theorem Ba.on {w w' : World} {r : Nat} {neg : Bool} {A : Option Addr} {n c : Nat} {xs : List Nat} (h : Ba w r neg A n c xs) (hb : Below w.heap.size w w') : Ba w' r neg A n c xs :=
 ⟨h.bx.below hb h.bx.lt, h.sl.on hb⟩
end Go.Proofs.YtmncfbfepdbioaaGreatDoor
namespace Go.Proofs.YtmncfbfepdbioaaGreatDoor
open Go.RowKit
theorem sg_dec {z : Int} {v : Nat} (h : v = z.natAbs) : sg (decide (z < 0)) v = z := by
 unfold sg
 by_cases hz : z < 0
 . rw [if_pos (by simpa using hz), h]; omega
 . rw [if_neg (by simpa using hz), h]; omega
end Go.Proofs.YtmncfbfepdbioaaGreatDoor
namespace Go.Proofs.YtmncfbfepdbioaaGreatDoor
open Go.RowKit
theorem two_boxes (neg neg' : Bool) (A A' : Option Addr) (n c n' c' : Nat) (xs ys : List Nat) (w W : World) (h : Sl w w.heap.size A n c xs) (h' : Sl w w.heap.size A' n' c' ys)
 (hW : (w.alloc (.cells #[.bool neg, .slice A n c] 25)).alloc (.cells #[.bool neg', .slice A' n' c'] 25) = W) :
 Below w.heap.size w W /\ Ba W w.heap.size neg A n c xs /\ Ba W (w.heap.size + 1) neg' A' n' c' ys := by
 subst hW
 have hb := ((Below.refl w.heap.size w).alloc (Nat.le_refl _) (.cells #[.bool neg, .slice A n c] 25)).alloc (by simp) (.cells #[.bool neg', .slice A' n' c'] 25)
 refine ⟨hb, ⟨(Bx.new w _ _ _ _).alloc _, h.on hb⟩, ⟨?_, h'.on hb⟩⟩
 have := Bx.new (w.alloc (.cells #[.bool neg, .slice A n c] 25)) neg' A' n' c'
 simpa using this
theorem sg_not (neg : Bool) (v : Nat) : sg (!neg) v = - sg neg v := by cases neg <;> simp [sg]
end Go.Proofs.YtmncfbfepdbioaaGreatDoor
namespace Go.Proofs.YtmncfbfepdbioaaGreatDoor
open Go.RowKit
theorem vld_fit {z : Int} {xs : List Nat} (hx : Ok xs) (nx : Nz xs) (e : val xs = z.natAbs) (hz : z.natAbs < BIG) : vld (decide (z < 0)) xs = true :=
 vld_of hx nx (by rw [e]; exact hz) (fun hd => by have := of_decide_eq_true hd; rw [e]; omega)
end Go.Proofs.YtmncfbfepdbioaaGreatDoor
namespace Go.Proofs.YtmncfbfepdbioaaGreatDoor
open Go.RowKit
end Go.Proofs.YtmncfbfepdbioaaGreatDoor
namespace Go.Proofs.YtmncfbfepdbioaaGreatDoor
open Go.RowKit
end Go.Proofs.YtmncfbfepdbioaaGreatDoor
namespace Go.Proofs.YtmncfbfepdbioaaGreatDoor
open Go.RowKit
def ov (neg : Bool) (xs : List Nat) : Option Int := if vld neg xs then some (sg neg (val xs)) else none
def o2Z (f : Int -> Int -> Int) : Option Int -> Option Int -> Int
 | some a, some b => fitZ (f a b)
 | _, _ => 0
def o2E (f : Int -> Int -> Int) : Option Int -> Option Int -> Int
 | some a, some b => fitE (f a b)
 | _, _ => 1
theorem o2Z_op (f : Int -> Int -> Int) (neg neg' : Bool) (xs ys : List Nat) : o2Z f (ov neg xs) (ov neg' ys) = opZ (vld neg xs && vld neg' ys) (f (sg neg (val xs)) (sg neg' (val ys))) := by
 unfold ov
 cases vld neg xs <;> cases vld neg' ys <;> rfl
theorem o2E_op (f : Int -> Int -> Int) (neg neg' : Bool) (xs ys : List Nat) : o2E f (ov neg xs) (ov neg' ys) = opE (vld neg xs && vld neg' ys) (f (sg neg (val xs)) (sg neg' (val ys))) := by
 unfold ov
 cases vld neg xs <;> cases vld neg' ys <;> rfl
theorem big_gt : 0 < BIG := by unfold BIG; exact pow_pos' _
theorem fitZ_lt (u : Int) : (fitZ u).natAbs < BIG := by
 unfold fitZ
 split
 . assumption
 . exact big_gt
theorem o2Z_lt (f : Int -> Int -> Int) (o o' : Option Int) : (o2Z f o o').natAbs < BIG := by
 rcases o with _ | a <;> rcases o' with _ | b
 . exact big_gt
 . exact big_gt
 . exact big_gt
 . exact fitZ_lt _
theorem ov_res {z : Int} {xs : List Nat} (hx : Ok xs) (nx : Nz xs) (e : val xs = z.natAbs) (hz : z.natAbs < BIG) : ov (decide (z < 0)) xs = some z := by
 unfold ov
 rw [if_pos (vld_fit hx nx e hz), sg_dec e]
theorem ov_some {neg : Bool} {xs : List Nat} (h : vld neg xs = true) : ov neg xs = some (sg neg (val xs)) := if_pos h
theorem ov_none {neg : Bool} {xs : List Nat} (h : vld neg xs = false) : ov neg xs = none := by unfold ov; rw [h]; rfl
section
variable {neg neg' : Bool} {A A' : Option Addr} {n c n' c' : Nat} {xs ys : List Nat} {w : World}
theorem add_ov (h : Sl w w.heap.size A n c xs) (h' : Sl w w.heap.size A' n' c' ys) :
 Calls Tryz.prog 45 #[.agg #[.bool neg, .slice A n c], .agg #[.bool neg', .slice A' n' c']] w (RetIE (o2Z (· + ·) (ov neg xs) (ov neg' ys)) (o2E (· + ·) (ov neg xs) (ov neg' ys)) w) := by
 rw [o2Z_op, o2E_op]
 exact add_any neg neg' A A' n c n' c' xs ys w h h'
theorem sub_ov (h : Sl w w.heap.size A n c xs) (h' : Sl w w.heap.size A' n' c' ys) :
 Calls Tryz.prog 192 #[.agg #[.bool neg, .slice A n c], .agg #[.bool neg', .slice A' n' c']] w (RetIE (o2Z (· - ·) (ov neg xs) (ov neg' ys)) (o2E (· - ·) (ov neg xs) (ov neg' ys)) w) := by
 rw [o2Z_op, o2E_op]
 have := sub_any neg neg' A A' n c n' c' xs ys w h h'
 rwa [sg_not, <- Int.sub_eq_add_neg] at this
theorem mul_ov (h : Sl w w.heap.size A n c xs) (h' : Sl w w.heap.size A' n' c' ys) :
 Calls Tryz.prog 44 #[.agg #[.bool neg, .slice A n c], .agg #[.bool neg', .slice A' n' c']] w (RetIE (o2Z (· * ·) (ov neg xs) (ov neg' ys)) (o2E (· * ·) (ov neg xs) (ov neg' ys)) w) := by
 rw [o2Z_op, o2E_op]
 exact mul_any neg neg' A A' n c n' c' xs ys w h h'
end
theorem Ba.stored {w : World} {r : Nat} {neg : Bool} {A A' : Option Addr} {n c n' c' : Nat} {xs xs' : List Nat} (h : Ba w r neg A n c xs) (hs : Sl w w.heap.size A' n' c' xs') (b : Bool) :
 Ba ((w.setCell ⟨r, 0, none⟩ (.bool b)).setCell ⟨r, 1, none⟩ (.slice A' n' c')) r b A' n' c' xs' := by
 refine ⟨?_, hs.ret h.bx b _⟩
 have := Blk.set_ (Blk.set_ h.bx 0 (.bool b)) 1 (.slice A' n' c')
 exact this
theorem Ba.aside {w : World} {r r' : Nat} {neg neg' : Bool} {A A' : Option Addr} {n c n' c' : Nat} {xs xs' : List Nat} (h' : Ba w r' neg' A' n' c' xs') (h : Ba w r neg A n c xs) (hne : r' ≠ r) (b : Bool) (v : Value) :
 Ba ((w.setCell ⟨r, 0, none⟩ (.bool b)).setCell ⟨r, 1, none⟩ v) r' neg' A' n' c' xs' :=
 ⟨Blk.far (Blk.far h'.bx (p := ⟨r, 0, none⟩) hne _) (p := ⟨r, 1, none⟩) hne _, h'.sl.ret h.bx b v⟩
end Go.Proofs.YtmncfbfepdbioaaGreatDoor
namespace Go.Proofs.YtmncfbfepdbioaaGreatDoor
open Go.RowKit
def nbits (N : Nat) : Nat := if N = 0 then 0 else Nat.log2 N + 1
theorem nbits_zero : nbits 0 = 0 := rfl
theorem nbits_lt (N : Nat) : N < 2 ^ nbits N := by
 unfold nbits
 split
 . rename_i h; subst h; decide
 . exact Nat.lt_log2_self
theorem nbits_ge {N : Nat} (h : N ≠ 0) : 2 ^ (nbits N - 1) <= N := by
 unfold nbits
 rw [if_neg h, Nat.add_sub_cancel]
 exact Nat.log2_self_le h
theorem nbits_pos {N : Nat} (h : N ≠ 0) : 0 < nbits N := by unfold nbits; rw [if_neg h]; omega
theorem nbits_uniq {N k : Nat} (h1 : 2 ^ k <= N) (h2 : N < 2 ^ (k + 1)) : nbits N = k + 1 := by
 have h0 : N ≠ 0 := by have : 0 < 2 ^ k := Nat.pow_pos (by decide); omega
 have a := nbits_lt N
 have b := nbits_ge h0
 have p := nbits_pos h0
 have c : k < nbits N := (Nat.pow_lt_pow_iff_right (a := 2) (by decide)).1 (Nat.lt_of_le_of_lt h1 a)
 have d : nbits N - 1 < k + 1 := (Nat.pow_lt_pow_iff_right (a := 2) (by decide)).1 (Nat.lt_of_le_of_lt b h2)
 omega
theorem nbits_le_iff (N k : Nat) : nbits N <= k ↔ N < 2 ^ k := by
 constructor
 . intro h; exact Nat.lt_of_lt_of_le (nbits_lt N) (Nat.pow_le_pow_right (by decide) h)
 . intro h
   rcases Nat.eq_zero_or_pos N with e | e
   . rw [e, nbits_zero]; omega
   . have b := nbits_ge (N := N) (by omega)
     have d : nbits N - 1 < k := (Nat.pow_lt_pow_iff_right (a := 2) (by decide)).1 (Nat.lt_of_le_of_lt b h)
     omega
theorem nbits_half {N : Nat} (h : N ≠ 0) : nbits N = 1 + nbits (N / 2) := by
 unfold nbits
 rw [if_neg h]
 by_cases h2 : N / 2 = 0
 . rw [if_pos h2]
   have : N = 1 := by omega
   subst this; rfl
 . rw [if_neg h2, Nat.log2_def N, if_pos (by omega)]
   omega
theorem nbits_word (x : Nat) (h : x < 18446744073709551616) : Lib.bitLen x = nbits x := by
 induction x using Nat.strongRecOn with
 | _ x ih =>
   by_cases h0 : x = 0
   . subst h0; rfl
   . rw [Lib.bitLen_half x h0 h, nbits_half h0, ih (x / 2) (by omega) (by omega)]
theorem nbits_top {L t k : Nat} (hL : L < 4294967296 ^ k) (ht : t ≠ 0) : nbits (L + 4294967296 ^ k * t) = 32 * k + nbits t := by
 have a := nbits_lt t
 have b := nbits_ge ht
 have p := nbits_pos ht
 have e : (4294967296 : Nat) ^ k = 2 ^ (32 * k) := by rw [show (4294967296 : Nat) = 2 ^ 32 by decide, <- Nat.pow_mul]
 rw [show 32 * k + nbits t = (32 * k + (nbits t - 1)) + 1 by omega]
 apply nbits_uniq
 . rw [Nat.pow_add, <- e]
   exact Nat.le_trans (Nat.mul_le_mul_left _ b) (by omega)
 . rw [show 32 * k + (nbits t - 1) + 1 = 32 * k + nbits t by omega, Nat.pow_add, <- e]
   have : 4294967296 ^ k * (t + 1) <= 4294967296 ^ k * 2 ^ nbits t := Nat.mul_le_mul_left _ a
   rw [Nat.mul_add] at this
   omega
theorem nbits_val {xs : List Nat} {m : Nat} (hx : Ok xs) (nx : Nz xs) (hl : xs.length = m + 1) : nbits (val xs) = 32 * m + nbits (lim xs m) := by
 have e := val_take_succ xs m
 rw [List.take_of_length_le (by omega)] at e
 have hne : xs ≠ [] := by rintro rfl; simp at hl
 have ht := (nz_iff hne).1 nx
 rw [hl, Nat.add_sub_cancel] at ht
 have hL := val_lt (hx.take m)
 rw [List.length_take, Nat.min_eq_left (by omega)] at hL
 rw [e]
 exact nbits_top hL ht
theorem nbits_limb {x : Nat} (h : x < 4294967296) : nbits x <= 32 := (nbits_le_iff x 32).2 h
theorem bitsMag_any (A : Option Addr) (n c B : Nat) (xs : List Nat) (w : World) (h : Sl w B A n c xs) (hx : Nz xs) (hn : n <= 1000000) :
 Calls Tryz.prog 195 #[.slice A n c] w fun e w' => e = .returned (.int .i64 (nbits (val xs) : Nat)) /\ w = w' := by
 have hcap := h.cap
 have hcr := h.capr
 rcases n with _ | m
 . obtain rfl : xs = [] := List.eq_nil_of_length_eq_zero h.len
   go_enter Tryz.func195, Tryz.ntmps195
   go_wp2
   go_ret
   exact ⟨rfl, rfl⟩
 . have Hv := Lib.hid (nbits_val h.ok hx h.len)
   have hx1 := h.ok.lim m
   have Hb := Lib.hid (nbits_word (lim xs m) (by omega))
   have hb1 := nbits_limb hx1
   obtain ⟨ad, rfl, hadb, hc1⟩ := h.cell (k := m) (by omega)
   have i4 : (((m + 1 : Nat) : Int) == 0) = false := by rw [beq_eq_false_iff_ne]; omega
   have i1 : ((m + 1 : Nat) : Int) - 1 = (m : Int) := by omega
   have i2 : (m : Int) < ((m + 1 : Nat) : Int) := by omega
   go_enter Tryz.func195, Tryz.ntmps195
   go_wp2_with fail
   refine (Tryz.bits_Len32 _ _ (by omega) (by omega)).mono ?_
   rintro e w' ⟨rfl, rfl⟩
   rw [show ((lim xs m : Nat) : Int).toNat = lim xs m by omega, Hb.out]
   go_wp2
   go_ret
   exact ⟨ret_int (by rw [Hv.out]; omega), rfl⟩
end Go.Proofs.YtmncfbfepdbioaaGreatDoor
namespace Go.Proofs.YtmncfbfepdbioaaGreatDoor
open Go.RowKit
theorem or_low (t a b : Nat) (ha : a < 2 ^ t) (hb : b % 2 ^ t = 0) (h1 : a < 4294967296) (h2 : b < 4294967296) : bits .or .u32 (a : Int) (b : Int) = ((a + b : Nat) : Int) /\ bits .or .u32 (b : Int) (a : Int) = ((a + b : Nat) : Int) := by
 have e := Nat.two_pow_add_eq_or_of_lt (i := t) (b := a) ha (b / 2 ^ t)
 have d : 2 ^ t * (b / 2 ^ t) = b := by
  have := Nat.div_add_mod b (2 ^ t)
  omega
 rw [d] at e
 rw [u32_or_nat a b h1 h2, u32_or_nat b a h2 h1, <- e, Nat.or_comm a b, <- e, Nat.add_comm a b]
 exact ⟨rfl, rfl⟩
theorem low_mul {x t : Nat} (ht : t <= 32) : (x * 2 ^ t % 4294967296) % 2 ^ t = 0 := by
 rw [show (4294967296 : Nat) = 2 ^ 32 by decide, Nat.mod_mod_of_dvd _ (Nat.pow_dvd_pow 2 ht), Nat.mul_mod_left]
theorem high_mul {x t : Nat} (hx : x < 4294967296) : x * 2 ^ t / 4294967296 < 2 ^ t := by
 rw [Nat.div_lt_iff_lt_mul (by decide), Nat.mul_comm]
 exact Nat.mul_lt_mul_of_pos_left hx (Nat.pow_pos (by decide))
theorem shl_cast (x t : Nat) (hx : x < 4294967296) (ht : t < 32) : IntKind.u64.wrap ((x : Int) * 2 ^ t) = ((x * 2 ^ t : Nat) : Int) := by
 have h2 : 2 ^ t <= 2 ^ 31 := Nat.pow_le_pow_right (by decide) (by omega)
 have h3 : x * 2 ^ t <= 4294967295 * 2 ^ 31 := Nat.mul_le_mul (by omega) h2
 have h4 : ((x : Int) * 2 ^ t) = ((x * 2 ^ t : Nat) : Int) := by rw [Int.natCast_mul, Int.natCast_pow]; rfl
 rw [IntKind.wrap_u64, h4]
 omega
def shlAt (xs : List Nat) (t J q : Nat) : Nat :=
 if q < J then lim xs q else lim xs q * 2 ^ t % 4294967296 + if J < q then lim xs (q - 1) * 2 ^ t / 4294967296 else 0
theorem shl_val {xs zr : List Nat} {l n t : Nat} (hlen : xs.length = n) (h : ∀ q, q <= n -> lim zr (l + q) = shlAt xs t 0 q) : wv zr l (n + 1) = val xs * 2 ^ t := by
 have key : ∀ k, k <= n + 1 -> 0 < k -> wv zr l k + 4294967296 ^ k * (lim xs (k - 1) * 2 ^ t / 4294967296) = val (xs.take k) * 2 ^ t := by
  intro k
  induction k with
  | zero => intro _ h0; omega
  | succ k ih =>
    intro hk _
    rw [wv_succ, h k (by omega), val_take_succ, Nat.add_mul, Nat.add_sub_cancel, shlAt, if_neg (by omega), Nat.pow_succ]
    have dm := Nat.div_add_mod (lim xs k * 2 ^ t) 4294967296
    rcases k with _ | k
    . rw [if_neg (by omega)]
      simp only [wv_zero, List.take_zero, val_nil, Nat.zero_mul, Nat.pow_zero, Nat.one_mul, Nat.add_zero, Nat.zero_add]
      omega
    . have e := ih (by omega) (by omega)
      rw [Nat.add_sub_cancel] at e
      rw [if_pos (by omega), Nat.add_sub_cancel, <- e, Nat.mul_add]
      generalize 4294967296 ^ (k + 1) = P
      rw [show P * (lim xs (k + 1)) * 2 ^ t = P * (lim xs (k + 1) * 2 ^ t) by rw [Nat.mul_assoc], <- dm, Nat.mul_add P, <- Nat.mul_assoc P 4294967296]
      rw [dm]
      omega
 have e := key (n + 1) (Nat.le_refl _) (by omega)
 rw [Nat.add_sub_cancel, lim_past (xs := xs) (k := n) (by omega), List.take_of_length_le (by omega)] at e
 simpa using e
theorem shl_end {xs zr : List Nat} {s l n t : Nat} (hs : s = 32 * l + t) (hz : zr.length = l + n + 1) (h0 : ∀ p, p < l -> lim zr p = 0) (h : wv zr l (n + 1) = val xs * 2 ^ t) : val zr = val xs * 2 ^ s := by
 rw [<- wv_all zr (k := l + (n + 1)) (by omega), wv_add zr 0 l (n + 1), Nat.zero_add, h]
 have e0 : wv zr 0 l = 0 := by
  have := wv_congr (zs := List.replicate l 0) (zs' := zr) (off := 0) (off' := 0) (k := l) (fun i hi => by rw [Nat.zero_add, h0 i hi, lim_zeros])
  rw [this, wv_zeros]
 rw [e0, Nat.zero_add, hs, Nat.pow_add, Nat.pow_mul, show (2 : Nat) ^ 32 = 4294967296 by decide]
 rw [Nat.mul_left_comm, Nat.mul_comm (4294967296 ^ l)]
theorem over_lim0 {n l : Nat} {xs : List Nat} (hl : xs.length = n) (i : Nat) : lim (over (List.replicate (n + l + 1) 0) l xs) i = if l <= i then lim xs (i - l) else 0 := by
 rw [lim_over (by rw [List.length_replicate]; omega), lim_zeros]
 by_cases h1 : l <= i
 . rw [if_pos h1]
   by_cases h2 : i < l + xs.length
   . rw [if_pos ⟨h1, h2⟩]
   . rw [if_neg (by omega), lim_past (by omega)]
 . rw [if_neg h1, if_neg (by omega)]
theorem shl_rel {w wr : World} {zr xs : List Nat} {g l n t J p : Nat} (hp : p = l + J) (hx : Ok xs) (ht : t < 32) (hJ : J < n) (Hlen : Hid (zr.length = l + n + 1)) (Hrw : Hid (Row wr g zr)) (Hok : Hid (Ok zr))
 (Hlow : Hid (∀ p, p < l -> lim zr p = 0)) (Hd : Hid (∀ q, q <= n -> lim zr (l + q) = shlAt xs t (J + 1) q)) (Hb : Hid (Below g w wr)) (v u : Nat) (hv : v = lim xs J * 2 ^ t % 4294967296) (hu : u = lim xs (J + 1) * 2 ^ t % 4294967296 + lim xs J * 2 ^ t / 4294967296) :
 Hid (((zr.set p v).set (p + 1) u).length = l + n + 1) /\ Hid (Row ((wr.setCell ⟨g, p, none⟩ (.int .u32 (v : Int))).setCell ⟨g, p + 1, none⟩ (.int .u32 (u : Int))) g ((zr.set p v).set (p + 1) u)) ∧
 Hid (Ok ((zr.set p v).set (p + 1) u)) /\ Hid (∀ i, i < l -> lim ((zr.set p v).set (p + 1) u) i = 0) /\ Hid (∀ q, q <= n -> lim ((zr.set p v).set (p + 1) u) (l + q) = shlAt xs t J q) ∧
 Hid (Below g w ((wr.setCell ⟨g, p, none⟩ (.int .u32 (v : Int))).setCell ⟨g, p + 1, none⟩ (.int .u32 (u : Int)))) := by
 subst hp
 have hxJ := hx.lim J
 have hv' : v < 4294967296 := by rw [hv]; exact Nat.mod_lt _ (by decide)
 have hu' : u < 4294967296 := by
  have a := high_mul (t := t) hxJ
  have b := low_mul (x := lim xs (J + 1)) (t := t) (by omega)
  have c : lim xs (J + 1) * 2 ^ t % 4294967296 < 4294967296 := Nat.mod_lt _ (by decide)
  have e : (4294967296 : Nat) = 2 ^ t * 2 ^ (32 - t) := by rw [<- Nat.pow_add, show t + (32 - t) = 32 by omega]
  generalize lim xs (J + 1) * 2 ^ t % 4294967296 = y at *
  generalize lim xs J * 2 ^ t / 4294967296 = z at *
  have d := Nat.div_add_mod y (2 ^ t)
  rw [b, Nat.add_zero] at d
  have f : y / 2 ^ t < 2 ^ (32 - t) := by
   rw [Nat.div_lt_iff_lt_mul (Nat.pow_pos (by decide)), Nat.mul_comm, <- e]; exact c
  have g1 : 2 ^ t * (y / 2 ^ t + 1) <= 2 ^ t * 2 ^ (32 - t) := Nat.mul_le_mul_left _ f
  rw [Nat.mul_add, d, <- e] at g1
  omega
 refine ⟨by rw [Hid, List.length_set, List.length_set, Hlen.out], (Hrw.out.set _ _).set _ _, (Hok.out.set _ hv').set _ hu', fun i hi => ?_, fun q hq => ?_, (Hb.out.setCell (Nat.le_refl _) _).setCell (Nat.le_refl _) _⟩
 . rw [lim_set_ne (by omega), lim_set_ne (by omega)]; exact Hlow.out i hi
 . by_cases e1 : q = J + 1
   . subst e1
     rw [<- Nat.add_assoc, lim_set_eq (by rw [List.length_set, Hlen.out]; omega), hu, shlAt, if_neg (by omega), if_pos (by omega), Nat.add_sub_cancel]
   . rw [lim_set_ne (by omega)]
     by_cases e2 : q = J
     . subst e2
       rw [lim_set_eq (by rw [Hlen.out]; omega), hv, shlAt, if_neg (by omega), if_neg (by omega), Nat.add_zero]
     . rw [lim_set_ne (by omega), Hd.out q hq, shlAt, shlAt]
       by_cases e3 : q < J
       . rw [if_pos (by omega), if_pos e3]
       . rw [if_neg (by omega), if_neg e3, if_pos (by omega), if_pos (by omega)]
theorem shiftLeft_any (A : Option Addr) (n c s l t : Nat) (xs : List Nat) (w : World) (h : Sl w w.heap.size A n c xs) (hn : n <= 1000000) (hs : s <= 1000000) (hl : (s : Int) / 32 = (l : Int)) (ht : (s : Int) % 32 = (t : Int)) :
 Calls Tryz.prog 200 #[.slice A n c, .int .i64 (s : Int)] w (RetNum (val xs * 2 ^ s) w) := by
 have hcap := h.cap
 have hcr := h.capr
 have Hst := Lib.hid (show s = 32 * l + t /\ t < 32 by omega)
 have hlb : l <= 1000000 := by omega
 have hmk := make_any ((n : Int) + (l : Int) + 1) (n + l + 1) (by omega) (by omega)
 have Hrow := Lib.hid (Row.made w (n + l + 1))
 have Hl := Lib.hid h.len
 have Hb0 := Lib.hid ((Below.refl w.heap.size w).alloc (Nat.le_refl _) (.cells (zrow (n + l + 1)) 44))
 have htk : xs.take (n + 1) = xs := List.take_of_length_le (by rw [Hl.out]; omega)
 have E := Lib.hid htk
 clear htk
 have i1 : (l : Int) <= ((n + l + 1 : Nat) : Int) := by omega
 have i0 : (0 : Int) <= (l : Int) := by omega
 have hne : ¬ n + l + 1 = l := by omega
 go_enter Tryz.func200, Tryz.ntmps200
 go_wp2_with (with_reducible refine copy_us rfl (.tmp 23) (.tmp 24) rfl w.heap.size l (n + l + 1 - l) (n + l + 1 - l) n c w.heap.size A xs _ rfl rfl Hrow.out (h.alloc (Nat.le_refl _) _) (by rw [List.length_replicate]; omega) ?_; intro w1 hw hb)
 rw [show n + l + 1 - l = n + 1 by omega, E.out] at hw
 have Hr1 := Lib.hid hw
 have Hb1 := Lib.hid (Hb0.out.trans hb)
 clear hw hb i0 i1
 have hmod : (s : Int) % 32 = (t : Int) := ht
 go_wp2
 go_loopw [28] (fun iv wr => ∃ (k : Nat) (zr : List Nat), k <= n /\ iv = .int .i64 k /\ Hid (zr.length = l + n + 1) /\ Hid (Row wr w.heap.size zr) /\ Hid (Ok zr) /\ Hid (∀ p, p < l -> lim zr p = 0) ∧
  Hid (∀ q, q <= n -> lim zr (l + q) = shlAt xs t (n - k) q) /\ Hid (Below w.heap.size w wr)) (fun iv _ => n - (intOf iv).toNat)
 case atStart =>
  refine ⟨0, _, by omega, rfl, ?_, Hr1.out, (ok_zeros _).over h.ok _, fun p hp => ?_, fun q hq => ?_, Hb1.out⟩
  . rw [Hid, over_length (by rw [List.length_replicate, Hl.out]; omega), List.length_replicate]; omega
  . rw [over_lim0 Hl.out, if_neg (by omega)]
  . rw [over_lim0 Hl.out, if_pos (by omega), show l + q - l = q by omega, shlAt, Nat.sub_zero]
    by_cases e : q < n
    . rw [if_pos e]
    . rw [if_neg e, if_neg (by omega), lim_past (by rw [Hl.out]; omega)]; simp
 case round =>
  obtain ⟨k, zr, hk, rfl, Hlen, Hrw, Hok, Hlow, Hd, Hb⟩ := hrel
  by_cases hkn : k < n
  . obtain ⟨J, hJ⟩ : ∃ J, n = k + (J + 1) := ⟨n - k - 1, by omega⟩
    obtain ⟨p, hp⟩ : ∃ p, p = l + J := ⟨_, rfl⟩
    have Hd' : Hid (∀ q, q <= n -> lim zr (l + q) = shlAt xs t (J + 1) q) := by rw [show J + 1 = n - k by omega]; exact Hd
    have hxJ := h.ok.lim J
    obtain ⟨ad, rfl, hadb, hc1⟩ := (h.below Hb.out).cell (k := J) (by omega)
    have hlp : p + 1 < zr.length := by rw [Hlen.out]; omega
    have hc2 := Hrw.out.cell (i := p) (by omega)
    have hf2 := Hrw.out.free p
    have hc3 := Hrw.out.cell hlp
    have hf3 := Hrw.out.free (p + 1)
    have j1 : (n : Int) - 1 - (k : Int) = (J : Int) := by omega
    have j2 : (l : Int) + (n : Int) - 1 - (k : Int) = (p : Int) := by omega
    have j3 : (J : Int) < (n : Int) := by omega
    have j4 : (p : Int) < ((n + l + 1 : Nat) : Int) := by omega
    have j5 : (p : Int) + 1 < ((n + l + 1 : Nat) : Int) := by omega
    have j6 : (k : Int) < (n : Int) := by omega
    have j7 := shl_cast (lim xs J) t hxJ Hst.out.2
    have HJ := Lib.hid (And.intro hJ hp)
    clear hJ hp
    go_wp2
    have e0 : lim zr (p + 1) = lim xs (J + 1) * 2 ^ t % 4294967296 := by
     have := Hd'.out (J + 1) (by have := HJ.out.1; omega)
     rw [show l + (J + 1) = p + 1 by have := HJ.out.2; omega, shlAt, if_neg (by omega), if_neg (by omega), Nat.add_zero] at this
     exact this
    have c1 : (↑(lim xs J) * 2 ^ t % 4294967296 : Int) = ((lim xs J * 2 ^ t % 4294967296 : Nat) : Int) := by
     rw [Int.natCast_emod, Int.natCast_mul, Int.natCast_pow]; rfl
    have hhi := high_mul (t := t) hxJ
    have hpw : 2 ^ t <= 2 ^ 31 := Nat.pow_le_pow_right (by decide) (by have := Hst.out.2; omega)
    have c2 : (↑(lim xs J) * 2 ^ t / 4294967296 % 4294967296 : Int) = ((lim xs J * 2 ^ t / 4294967296 : Nat) : Int) := by
     rw [show (↑(lim xs J) * 2 ^ t : Int) = ((lim xs J * 2 ^ t : Nat) : Int) by rw [Int.natCast_mul, Int.natCast_pow]; rfl]
     omega
    have c3 := (or_low t (lim xs J * 2 ^ t / 4294967296) (lim xs (J + 1) * 2 ^ t % 4294967296) hhi (low_mul (by have := Hst.out.2; omega)) (by omega) (Nat.mod_lt _ (by decide))).2
    rw [c1, c2, e0, c3, Nat.add_comm (lim xs J * 2 ^ t / 4294967296)]
    have R := shl_rel HJ.out.2 h.ok Hst.out.2 (show J < n by have := HJ.out.1; omega) Hlen Hrw Hok Hlow Hd' Hb _ _ rfl rfl
    exact ⟨⟨k + 1, _, by omega, by go_num, R.1, R.2.1, R.2.2.1, R.2.2.2.1, (by rw [show n - (k + 1) = J by have := HJ.out.1; omega]; exact R.2.2.2.2.1), R.2.2.2.2.2⟩, by simp [intOf]; omega⟩
  . obtain rfl : k = n := by omega
    have hz := Hrw.out.lt
    have hsz := Hrw.out.sl (B := wr.heap.size) (n := k + l + 1) (c := k + l + 1) hz 0 (by rw [Hlen.out]; omega) (Nat.le_refl _) (by omega) Hok.out
    rw [List.drop_zero, List.take_of_length_le (by rw [Hlen.out]; omega)] at hsz
    have Hd0 : Hid (∀ q, q <= k -> lim zr (l + q) = shlAt xs t 0 q) := by have := Hd; rwa [Nat.sub_self] at this
    have He := Lib.hid (shl_end Hst.out.1 Hlen.out Hlow.out (shl_val Hl.out Hd0.out))
    go_wp2_with fail
    refine (trim_any _ _ _ _ zr wr hsz).mono ?_
    rintro e w3 ⟨⟨j, hj, rfl, hnz, hv⟩, rfl⟩
    have HV := Lib.hid hv
    clear hv
    go_wp2
    go_ret
    exact ⟨_, _, _, _, rfl, hsz.to hj, hnz, by rw [HV.out]; exact He.out, Hb.out⟩
end Go.Proofs.YtmncfbfepdbioaaGreatDoor
namespace Go.Proofs.YtmncfbfepdbioaaGreatDoor
open Go.RowKit
theorem subp_rel {w wr : World} {zs zr ys : List Nat} {g off k cy f : Nat} (hlt : off + k < zr.length) (Hrow : Hid (Row wr g zr)) (Hok : Hid (Ok zr)) (Hsame : Hid (Same zs zr off (off + k)))
 (Hval : Hid (wv zr off k + val (ys.take k) * f = wv zs off k + 4294967296 ^ k * cy)) (Hgr : Hid (w.grownBy wr (some g))) (v c' : Nat) (hv : v < 4294967296) (hs : v + cy + lim ys k * f = lim zr (off + k) + 4294967296 * c') :
 Hid (Row (wr.setCell ⟨g, off + k, none⟩ (.int .u32 (v : Int))) g (zr.set (off + k) v)) /\ Hid (Ok (zr.set (off + k) v)) ∧
 Hid (Same zs (zr.set (off + k) v) off (off + (k + 1))) ∧
 Hid (wv (zr.set (off + k) v) off (k + 1) + val (ys.take (k + 1)) * f = wv zs off (k + 1) + 4294967296 ^ (k + 1) * c') ∧
 Hid (w.grownBy (wr.setCell ⟨g, off + k, none⟩ (.int .u32 (v : Int))) (some g)) := by
 refine ⟨Hrow.out.set _ _, Hok.out.set _ hv, Hsame.out.snoc _, ?_, grown_set Hgr.out _ _⟩
 rw [Hid, wv_set_end hlt, wv_succ, val_take_succ, Nat.pow_succ, Nat.add_mul, Nat.mul_assoc (4294967296 ^ k) (lim ys k) f]
 have e := Hsame.out.2 (off + k) (.inr (Nat.le_refl _))
 exact sub_step (by rw [hs, e]) Hval.out
theorem borrow_bd {a f c t : Nat} (ha : a < 4294967296) (hf : f < 4294967296) (hc : c < 4294967296) : (c + a * f) / 4294967296 < 4294967296 /\ (t < (c + a * f) % 4294967296 -> (c + a * f) / 4294967296 + 1 < 4294967296) /\ a * f <= 18446744065119617025 := by
 have h := Nat.mul_le_mul (show a <= 4294967295 by omega) (show f <= 4294967295 by omega)
 generalize a * f = p at *
 omega
theorem subp_last {w wr : World} {zs zr : List Nat} {g off k cy F : Nat} (hlt : off + k < zr.length) (Hrow : Row wr g zr) (Hok : Ok zr) (Hsame : Same zs zr off (off + k))
 (Hval : wv zr off k + F = wv zs off k + 4294967296 ^ k * cy) (Hgr : w.grownBy wr (some g)) (v b : Nat) (hv : v < 4294967296) (hs : v + cy = lim zr (off + k) + 4294967296 * b) :
 Row (wr.setCell ⟨g, off + k, none⟩ (.int .u32 (v : Int))) g (zr.set (off + k) v) /\ Ok (zr.set (off + k) v) /\ Same zs (zr.set (off + k) v) off (off + (k + 1)) ∧
 wv (zr.set (off + k) v) off (k + 1) + F = wv zs off (k + 1) + 4294967296 ^ (k + 1) * b /\ w.grownBy (wr.setCell ⟨g, off + k, none⟩ (.int .u32 (v : Int))) (some g) := by
 refine ⟨Hrow.set _ _, Hok.set _ hv, Hsame.snoc _, ?_, grown_set Hgr _ _⟩
 rw [wv_set_end hlt, wv_succ, Nat.pow_succ]
 have e := Hsame.2 (off + k) (.inr (Nat.le_refl _))
 have := sub_step (b := 0) (P := 4294967296 ^ k) (v := v) (c' := b) (t := lim zs (off + k)) (by rw [Nat.add_zero, hs, e]) Hval
 simpa using this
theorem subProduct_any (g off c B m d f : Nat) (A : Option Addr) (zs ys : List Nat) (w : World) (hr : Row w g zs) (hoff : off + (m + 1) <= zs.length) (hz : Ok zs) (hl : off + (m + 1) <= 35184372088832)
 (h : Sl w B A m d ys) (hB : B <= g) (hf : f < 4294967296) :
 Calls Tryz.prog 211 #[.slice (some ⟨g, off, none⟩) (m + 1) c, .slice A m d, .int .u32 f] w fun e w' => ∃ (zs' : List Nat) (b : Bool), e = .returned (.bool b) /\ Row w' g zs' /\ Ok zs' /\ Same zs zs' off (off + (m + 1)) ∧
  wv zs' off (m + 1) + val ys * f = wv zs off (m + 1) + 4294967296 ^ (m + 1) * (if b then 1 else 0) /\ w.grownBy w' (some g) := by
 go_enter Tryz.func211, Tryz.ntmps211
 go_wp2
 go_loopw [8, 10, 15] (fun cv lv iv wr => ∃ (k cy : Nat) (zr : List Nat), k <= m /\ iv = .int .i64 k /\ cv = .int .u64 cy /\ cy < 4294967296 /\ Hid (Row wr g zr) /\ Hid (Ok zr) /\ Hid (Same zs zr off (off + k)) ∧
  Hid (wv zr off k + val (ys.take k) * f = wv zs off k + 4294967296 ^ k * cy) /\ Hid (w.grownBy wr (some g))) (fun _ _ iv _ => m - (intOf iv).toNat)
 case atStart => exact ⟨0, 0, zs, by omega, rfl, rfl, by omega, hr, hz, Same.refl _ _ _, by rw [Hid, List.take_zero, val_nil, Nat.zero_mul, Nat.mul_zero], World.grownBy.refl w _⟩
 case round =>
  obtain ⟨k, cy, zr, hk, rfl, rfl, hcy, Hrow, Hok, Hsame, Hval, Hgr⟩ := hrel
  by_cases hkn : k < m
  . have hlt : off + k < zr.length := by have := Hsame.out.1; omega
    have hc1 := Hrow.out.cell hlt
    have hf1 := Hrow.out.free (off + k)
    have ht := Hok.out.lim (off + k)
    have hy := h.ok.lim k
    have hbd := borrow_bd (t := lim zr (off + k)) hy hf hcy
    have b1 : ((lim ys k : Nat) : Int) * (f : Int) <= 18446744065119617025 := by have := hbd.2.2; rw [<- Int.natCast_mul]; omega
    have b0 : 0 <= ((lim ys k : Nat) : Int) * (f : Int) := by rw [<- Int.natCast_mul]; omega
    have c1 : ((cy : Int) + ((lim ys k : Nat) : Int) * (f : Int)) = ((cy + lim ys k * f : Nat) : Int) := by rw [Int.natCast_add, Int.natCast_mul]
    have C1 := Lib.hid c1
    have Hbd := Lib.hid hbd
    clear hbd c1
    obtain ⟨ad, rfl, hadb, hc2⟩ := (h.grown Hgr.out (by have := hr.lt; omega) hB).cell hkn
    by_cases hb : lim zr (off + k) < (cy + lim ys k * f) % 4294967296
    . have t1 : ((lim zr (off + k) : Nat) : Int) < ((cy : Int) + ((lim ys k : Nat) : Int) * (f : Int)) % 4294967296 := by rw [C1.out]; omega
      have R := Lib.hid (subp_rel (f := f) hlt Hrow Hok Hsame Hval Hgr (lim zr (off + k) + 4294967296 - (cy + lim ys k * f) % 4294967296) ((cy + lim ys k * f) / 4294967296 + 1) (by omega) (by
       generalize lim ys k * f = p at *
       omega))
      go_wp2
      rw [show ((lim zr (off + k) : Int) - (↑cy + ↑(lim ys k) * ↑f)) % 4294967296 = ((lim zr (off + k) + 4294967296 - (cy + lim ys k * f) % 4294967296 : Nat) : Int) by rw [C1.out]; omega,
       show Value.int .u64 ((↑cy + ↑(lim ys k) * ↑f) / 4294967296 + 1) = Value.int .u64 (((cy + lim ys k * f) / 4294967296 + 1 : Nat) : Int) by rw [C1.out]; go_num]
      exact ⟨⟨k + 1, (cy + lim ys k * f) / 4294967296 + 1, _, by omega, by go_num, rfl, Hbd.out.2.1 hb, R.out⟩, by simp [intOf]; omega⟩
    . have t1 : ((cy : Int) + ((lim ys k : Nat) : Int) * (f : Int)) % 4294967296 <= ((lim zr (off + k) : Nat) : Int) := by rw [C1.out]; omega
      have R := Lib.hid (subp_rel (f := f) hlt Hrow Hok Hsame Hval Hgr (lim zr (off + k) - (cy + lim ys k * f) % 4294967296) ((cy + lim ys k * f) / 4294967296) (by omega) (by
       generalize lim ys k * f = p at *
       omega))
      go_wp2
      rw [show (lim zr (off + k) : Int) - (↑cy + ↑(lim ys k) * ↑f) % 4294967296 = ((lim zr (off + k) - (cy + lim ys k * f) % 4294967296 : Nat) : Int) by rw [C1.out]; omega,
       show Value.int .u64 ((↑cy + ↑(lim ys k) * ↑f) / 4294967296) = Value.int .u64 (((cy + lim ys k * f) / 4294967296 : Nat) : Int) by rw [C1.out]; go_num]
      exact ⟨⟨k + 1, (cy + lim ys k * f) / 4294967296, _, by omega, by go_num, rfl, Hbd.out.1, R.out⟩, by simp [intOf]; omega⟩
  . have E0 := Lib.hid (sl_val h (k := k) (by omega))
    obtain rfl : k = m := by omega
    have hlt : off + k < zr.length := by have := Hsame.out.1; omega
    have hc1 := Hrow.out.cell hlt
    have hf1 := Hrow.out.free (off + k)
    have ht := Hok.out.lim (off + k)
    have e := Hsame.out.2 (off + k) (.inr (Nat.le_refl _))
    have E1 := Lib.hid e
    clear e
    have Hv' : Hid (wv zr off k + val ys * f = wv zs off k + 4294967296 ^ k * cy) := by rw [<- E0.out]; exact Hval.out
    by_cases hb : lim zr (off + k) < cy
    . have hb' : ((lim zr (off + k) : Nat) : Int) < (cy : Int) := by omega
      have R := Lib.hid (subp_last hlt Hrow.out Hok.out Hsame.out Hv'.out Hgr.out (lim zr (off + k) + 4294967296 - cy) 1 (by omega) (by omega))
      go_wp2
      rw [show ((lim zr (off + k) : Int) - ↑cy) % 4294967296 = ((lim zr (off + k) + 4294967296 - cy : Nat) : Int) by omega]
      go_ret
      exact ⟨_, true, rfl, R.out⟩
    . have hb' : (cy : Int) <= ((lim zr (off + k) : Nat) : Int) := by omega
      have R := Lib.hid (subp_last hlt Hrow.out Hok.out Hsame.out Hv'.out Hgr.out (lim zr (off + k) - cy) 0 (by omega) (by omega))
      go_wp2
      rw [show (lim zr (off + k) : Int) - ↑cy = ((lim zr (off + k) - cy : Nat) : Int) by omega]
      go_ret
      exact ⟨_, false, rfl, R.out⟩
end Go.Proofs.YtmncfbfepdbioaaGreatDoor
namespace Go.Proofs.YtmncfbfepdbioaaGreatDoor
open Go.RowKit
theorem knuth_dec {U V P Lv Lu v1 v2 a0 top D Lf : Nat} (hU : U = Lu + P * (a0 + 4294967296 * top)) (hLu : Lu < P) (hV : V = Lv + P * (v2 + 4294967296 * v1)) (ht : D * v1 + Lf = top) (h : 4294967296 * Lf + a0 < D * v2) : U < D * V := by
 rcases Nat.lt_or_ge U (D * V) with h1 | h1
 . exact h1
 . exfalso
   have a : P * (D * (v2 + 4294967296 * v1)) <= D * V := by
    have := Nat.mul_le_mul_left D (show P * (v2 + 4294967296 * v1) <= V by rw [hV]; exact Nat.le_add_left _ _)
    rwa [Nat.mul_left_comm] at this
   have b : U < P * (a0 + 4294967296 * top + 1) := by rw [hU, Nat.mul_add P (a0 + 4294967296 * top) 1]; omega
   have c := Nat.lt_of_mul_lt_mul_left (Nat.lt_of_le_of_lt (Nat.le_trans a h1) b)
   rw [Nat.mul_add, <- ht, Nat.mul_left_comm D 4294967296 v1] at c
   generalize D * v1 = p at *
   generalize D * v2 = q at *
   omega
theorem knuth_ok {U V P Lv Lu v1 v2 a0 top D Lf : Nat} (hU : U = Lu + P * (a0 + 4294967296 * top)) (hV : V = Lv + P * (v2 + 4294967296 * v1)) (hLv : Lv < P) (hv1 : 0 < v1) (hv2 : v2 < 4294967296) (ht : D * v1 + Lf = top) (hD : D < 4294967296)
 (h : D * v2 <= 4294967296 * Lf + a0 \/ 4294967296 <= Lf) : D * V <= U + V := by
 have a : D * v2 <= 4294967296 * Lf + a0 := by
  rcases h with h | h
  . exact h
  . have := Nat.mul_le_mul (Nat.le_of_lt hD) (Nat.le_of_lt hv2)
    omega
 have b : D * (v2 + 4294967296 * v1) <= a0 + 4294967296 * top := by
  rw [Nat.mul_add, <- ht, Nat.mul_left_comm D 4294967296 v1]
  generalize D * v1 = p at *
  generalize D * v2 = q at *
  omega
 have c : P * (D * (v2 + 4294967296 * v1)) <= U := Nat.le_trans (Nat.mul_le_mul_left P b) (by rw [hU]; exact Nat.le_add_left _ _)
 have d : D * Lv <= V := by
  have e1 : D * Lv <= 4294967296 * P := Nat.mul_le_mul (Nat.le_of_lt hD) (Nat.le_of_lt hLv)
  have e2 : P * (4294967296 * 1) <= P * (v2 + 4294967296 * v1) := Nat.mul_le_mul_left P (by omega)
  rw [Nat.mul_one, Nat.mul_comm P 4294967296] at e2
  rw [hV]; omega
 have e : D * V = D * Lv + P * (D * (v2 + 4294967296 * v1)) := by
  rw [hV, Nat.mul_add D Lv, Nat.mul_left_comm D P]
 omega
theorem knuth_top {U V P Lv Lu v1 v2 a0 a1 a2 : Nat} (hU : U = Lu + P * (a0 + 4294967296 * (a1 + 4294967296 * a2))) (hV : V = Lv + P * (v2 + 4294967296 * v1)) (hLv : Lv < P) (hv2 : v2 < 4294967296) (h : U < V * 4294967296) : a2 <= v1 := by
 rcases Nat.lt_or_ge v1 a2 with h1 | h1
 . exfalso
   have a : V + 1 <= P * (4294967296 * (v1 + 1)) := by
    rw [hV]
    have : P * (v2 + 4294967296 * v1 + 1) <= P * (4294967296 * (v1 + 1)) := Nat.mul_le_mul_left P (by omega)
    rw [Nat.mul_add P _ 1] at this
    omega
   have b : P * (4294967296 * (v1 + 1)) * 4294967296 <= U := by
    rw [hU]
    have : P * ((4294967296 * (v1 + 1)) * 4294967296) <= P * (a0 + 4294967296 * (a1 + 4294967296 * a2)) := Nat.mul_le_mul_left P (by omega)
    rw [<- Nat.mul_assoc] at this
    omega
   have c : (V + 1) * 4294967296 <= P * (4294967296 * (v1 + 1)) * 4294967296 := Nat.mul_le_mul_right _ a
   omega
 . exact h1
theorem knuth_div {U V q R : Nat} (h1 : R + q * V = U) (h2 : R < V) : U / V = q /\ U % V = R := by
 have hp : 0 < V := by omega
 rw [<- h1, Nat.add_mul_div_right _ _ hp, Nat.div_eq_of_lt h2, Nat.add_mul_mod_self_right, Nat.mod_eq_of_lt h2]
 exact ⟨Nat.zero_add _, rfl⟩
theorem wv_two (zs : List Nat) (off m : Nat) : wv zs off (m + 2) = wv zs off m + 4294967296 ^ m * (lim zs (off + m) + 4294967296 * lim zs (off + (m + 1))) := by
 rw [wv_succ, wv_succ, Nat.pow_succ, Nat.mul_add, Nat.mul_assoc, Nat.add_assoc]
theorem wv_three (zs : List Nat) (off m : Nat) : wv zs off (m + 3) = wv zs off m + 4294967296 ^ m * (lim zs (off + m) + 4294967296 * (lim zs (off + (m + 1)) + 4294967296 * lim zs (off + (m + 2)))) := by
 rw [wv_succ, wv_two]
 simp only [Nat.pow_succ, Nat.mul_add, Nat.mul_assoc, Nat.add_assoc]
theorem knuth_start {U V P Lv Lu v1 v2 a0 top D : Nat} (hU : U = Lu + P * (a0 + 4294967296 * top)) (hV : V = Lv + P * (v2 + 4294967296 * v1)) (hLu : Lu < P) (hu : a0 < 4294967296) (h : top < (D + 1) * v1) : U < (D + 1) * V := by
 have a : P * ((D + 1) * (4294967296 * v1)) <= (D + 1) * V := by
  have := Nat.mul_le_mul_left (D + 1) (show P * (4294967296 * v1) <= V by rw [hV]; exact Nat.le_trans (Nat.mul_le_mul_left P (Nat.le_add_left _ _)) (Nat.le_add_left _ _))
  rwa [Nat.mul_left_comm] at this
 have b : U < P * (a0 + 4294967296 * top + 1) := by rw [hU, Nat.mul_add P (a0 + 4294967296 * top) 1]; omega
 have c : a0 + 4294967296 * top + 1 <= (D + 1) * (4294967296 * v1) := by
  rw [Nat.mul_left_comm]
  generalize (D + 1) * v1 = p at *
  omega
 exact Nat.lt_of_lt_of_le b (Nat.le_trans (Nat.mul_le_mul_left P c) a)
def Digit (g off k : Nat) (zs : List Nat) (U V : Nat) (w : World) (e : Ending) (w' : World) : Prop :=
 ∃ (zs' : List Nat) (q : Nat), e = .returned (.int .u32 (q : Int)) /\ U / V = q /\ q < 4294967296 /\ Row w' g zs' /\ Ok zs' /\ Same zs zs' off (off + k) /\ wv zs' off k = U % V /\ w.grownBy w' (some g)
theorem digit_keep {g off k : Nat} {zs zs' : List Nat} {U V D : Nat} {w w' : World} (hD : D < 4294967296) (hr : Row w' g zs') (ho : Ok zs') (hs : Same zs zs' off (off + k)) (hg : w.grownBy w' (some g)) (hq : U < (D + 1) * V)
 (hv : wv zs' off k + V * D = U) : Digit g off k zs U V w (.returned (.int .u32 (D : Int))) w' := by
 have h2 : wv zs' off k < V := by
  rw [Nat.add_mul, Nat.one_mul, Nat.mul_comm D V] at hq; omega
 have := knuth_div (U := U) (q := D) (by rw [Nat.mul_comm D V]; exact hv) h2
 exact ⟨zs', D, rfl, this.1, hD, hr, ho, hs, this.2.symm, hg⟩
theorem digit_less {g off k cy : Nat} {zs zs' zs'' : List Nat} {U V D Q : Nat} {w w' w'' : World} (hD : D < 4294967296) (hr : Row w'' g zs'') (ho : Ok zs'') (hs : Same zs zs' off (off + k)) (hs' : Same zs' zs'' off (off + k)) (hg : w.grownBy w' (some g)) (hg' : w'.grownBy w'' (some g))
 (hlt : wv zs'' off k < Q) (hlt' : wv zs' off k < Q) (hcy : cy <= 1) (hok : D * V <= U + V) (hv : wv zs' off k + V * D = U + Q * 1) (hv' : wv zs'' off k + Q * cy = wv zs' off k + V) :
 Digit g off k zs U V w (.returned (.int .u32 (((D - 1 : Nat) : Nat) : Int))) w'' := by
 have hD0 : 0 < D := by
  rcases Nat.eq_zero_or_pos D with e | e
  . subst e; rw [Nat.mul_zero] at hv; omega
  . exact e
 obtain ⟨D', rfl⟩ : ∃ D', D = D' + 1 := ⟨D - 1, by omega⟩
 rw [Nat.mul_add, Nat.mul_one] at hv
 rw [Nat.add_mul, Nat.one_mul, Nat.mul_comm D' V] at hok
 generalize hp : V * D' = p at *
 have e : wv zs'' off k + p = U /\ wv zs'' off k < V := by
  rcases Nat.lt_or_ge cy 1 with h | h
  . obtain rfl : cy = 0 := by omega
    rw [Nat.mul_zero] at hv'; omega
  . obtain rfl : cy = 1 := by omega
    rw [Nat.mul_one] at hv' hv; omega
 have := knuth_div (U := U) (q := D') (by rw [Nat.mul_comm D' V, hp]; exact e.1) e.2
 exact ⟨zs'', D', by rw [Nat.add_sub_cancel], this.1, by omega, hr, ho, hs.trans hs', this.2.symm, grown_trans hg hg'⟩
theorem subProduct_of (g off c B m q d f : Nat) (A : Option Addr) (zs ys : List Nat) (w : World) (e : q = m + 1) (hr : Row w g zs) (hoff : off + q <= zs.length) (hz : Ok zs) (hl : off + q <= 35184372088832)
 (h : Sl w B A m d ys) (hB : B <= g) (hf : f < 4294967296) :
 Calls Tryz.prog 211 #[.slice (some ⟨g, off, none⟩) q c, .slice A m d, .int .u32 f] w fun e w' => ∃ (zs' : List Nat) (b : Bool), e = .returned (.bool b) /\ Row w' g zs' /\ Ok zs' /\ Same zs zs' off (off + q) ∧
  wv zs' off q + val ys * f = wv zs off q + 4294967296 ^ q * (if b then 1 else 0) /\ w.grownBy w' (some g) := by
 subst e
 exact subProduct_any g off c B m d f A zs ys w hr hoff hz hl h hB hf
theorem takeDigit_raw (g off c B m q1 q2 q3 d : Nat) (A : Option Addr) (zs ys : List Nat) (w : World) (e1 : q1 = m + 1) (e2 : q2 = m + 2) (e3 : q3 = m + 3) (hr : Row w g zs) (hoff : off + q3 <= zs.length) (hz : Ok zs) (hl : off + q3 <= 35184372088832)
 (h : Sl w B A q2 d ys) (hB : B <= g) (hy : Nz ys) (hlt : wv zs off q3 < val ys * 4294967296) :
 Calls Tryz.prog 201 #[.slice (some ⟨g, off, none⟩) q3 c, .slice A q2 d] w (Digit g off q3 zs (wv zs off q3) (val ys) w) := by
 have hcap := h.cap
 have hreach := h.reach
 have hcr := h.capr
 have hlen := h.len
 have hV : val ys = wv ys 0 m + 4294967296 ^ m * (lim ys m + 4294967296 * lim ys q1) := by
  have := wv_two ys 0 m
  rw [wv_all ys (by omega), Nat.zero_add, Nat.zero_add, <- e1] at this
  exact this
 have hU := wv_three zs off m
 rw [<- e1, <- e2, <- e3] at hU
 have hLv := wv_lt h.ok 0 m
 have hLu := wv_lt hz off m
 have hv1 : 0 < lim ys q1 := by
  have hne : ys ≠ [] := by rintro rfl; simp at hlen; omega
  have := (nz_iff hne).1 hy
  rw [hlen, show q2 - 1 = q1 by omega] at this
  exact Nat.pos_of_ne_zero this
 have b1 := h.ok.lim q1
 have b2 := h.ok.lim m
 have d0 := hz.lim (off + m)
 have d1 := hz.lim (off + q1)
 have d2 := hz.lim (off + q2)
 have htop := knuth_top hU hV hLv b2 hlt
 obtain ⟨ad, rfl, hadb, y1⟩ := h.cell (k := q1) (by omega)
 obtain ⟨ad', e, _, y2⟩ := h.cell (k := m) (by omega)
 injection e with e
 subst e
 have z0 := hr.cell (i := off + m) (by omega)
 have z1 := hr.cell (i := off + q1) (by omega)
 have z2 := hr.cell (i := off + q2) (by omega)
 have HM := Lib.hid (And.intro hU (And.intro hV (And.intro hLv (And.intro hLu (And.intro hlt htop)))))
 clear hU hV hLv hLu hlt htop hlen
 generalize hv1e : lim ys q1 = v1 at *
 generalize hv2e : lim ys m = v2 at *
 generalize hu0e : lim zs (off + m) = a0 at *
 generalize hu1e : lim zs (off + q1) = a1 at *
 generalize hu2e : lim zs (off + q2) = a2 at *
 clear hv1e hv2e hu0e hu1e hu2e
 have i1 : (q2 : Int) - 1 = (q1 : Int) := by omega
 have i2 : (q2 : Int) - 2 = (m : Int) := by omega
 have j1 : IntKind.i64.wrap (q1 : Int) = (q1 : Int) := IntWalk.i64_in _ (by omega)
 have j2 : IntKind.i64.wrap (m : Int) = (m : Int) := IntWalk.i64_in _ (by omega)
 have k1 : (q1 : Int) < (q2 : Int) := by omega
 have k2 : (m : Int) < (q2 : Int) := by omega
 have k3 : (q2 : Int) < (q3 : Int) := by omega
 have k4 : (q1 : Int) < (q3 : Int) := by omega
 have k5 : (m : Int) < (q3 : Int) := by omega
 have n1 : (0 : Int) <= (q1 : Int) := by omega
 have n2 : (0 : Int) <= (m : Int) := by omega
 have n3 : (0 : Int) <= (q2 : Int) := by omega
 have HE := Lib.hid (And.intro e1 (And.intro e2 e3))
 clear e1 e2 e3
 have hor := or_shift a2 a1 d1 d2
 have hz1 : ((v1 : Int) == 0) = false := by rw [beq_eq_false_iff_ne]; omega
 go_enter Tryz.func201, Tryz.ntmps201
 go_wp2_with fail
 go_quiet (fail)
 go_wp2_with fail
 go_quiet (fail)
 go_wp2_with fail
 go_quiet (fail)
 go_wp2
 simp only [World.drewN_drewN]
 generalize hW : World.drewN w _ = W1
 have hrW : Row W1 g zs := by rw [<- hW]; exact hr
 have hW' : Sl W1 B (some ad) q2 d ys := by rw [<- hW]; exact h.drewN _
 have hgW : w.grownBy W1 (some g) := by rw [<- hW]; exact grown_drewN (World.grownBy.refl w _) _
 have y1' : W1.cell? (ad.add q1) = some (.int .u32 (v1 : Nat)) := by rw [<- hW]; exact y1
 have y2' : W1.cell? (ad.add m) = some (.int .u32 (v2 : Nat)) := by rw [<- hW]; exact y2
 have z0' : W1.cell? ⟨g, off + m, none⟩ = some (.int .u32 (a0 : Nat)) := by rw [<- hW]; exact z0
 clear hW y1 y2 z0 z1 z2 hor j1 j2
 have Hq2 : q2 <= q3 := by omega
 generalize hQ : (4294967296 * (a2 : Int) + (a1 : Int)) / (v1 : Int) = Q0
 generalize hR : (4294967296 * (a2 : Int) + (a1 : Int)) % (v1 : Int) = R0
 generalize 4294967296 * (a2 : Int) + (a1 : Int) = T0
 generalize (a2 : Int) * 4294967296 = T1
 have HQR := Lib.hid (And.intro hQ hR)
 clear hQ hR
 go_loop [9, 10] (fun dv lv => ∃ D Lf : Nat, dv = .int .u64 D /\ lv = .int .u64 Lf /\ D < 18446744073709551616 /\ Lf < 4294967296 /\ Hid (D * v1 + Lf = a1 + 4294967296 * a2) /\ Hid (wv zs off q3 < (D + 1) * val ys)) (fun dv _ => (intOf dv).toNat)
 case atStart =>
  have dm := Nat.div_add_mod (4294967296 * a2 + a1) v1
  have hm := Nat.mod_lt (4294967296 * a2 + a1) hv1
  refine ⟨(4294967296 * a2 + a1) / v1, (4294967296 * a2 + a1) % v1, by rw [<- HQR.out.1]; go_num, by rw [<- HQR.out.2]; go_num, ?_, by omega, ?_, ?_⟩
  . exact Nat.lt_of_le_of_lt (Nat.div_le_self _ _) (by omega)
  . rw [Hid, Nat.mul_comm, dm, Nat.add_comm]
  . exact knuth_start HM.out.1 HM.out.2.1 HM.out.2.2.2.1 d0 (by rw [Nat.add_comm a1, Nat.add_mul, Nat.one_mul, Nat.mul_comm ((4294967296 * a2 + a1) / v1)]; omega)
 case round =>
  obtain ⟨D, Lf, rfl, rfl, hD9, hLf, Ht, Hq⟩ := hrel
  have hor := or_shift Lf a0 d0 hLf
  have Hor := Lib.hid hor
  clear hor
  by_cases hD : D < 4294967296
  . have g1 : decide ((4294967296 : Int) <= (D : Int)) = false := by rw [decide_eq_false_iff_not]; omega
    have p1 : (D : Int) * (v2 : Int) <= 18446744065119617025 := by have := (mul_bd hD b2 d0 d0).1; rw [<- Int.natCast_mul]; omega
    have p0 : 0 <= (D : Int) * (v2 : Int) := by rw [<- Int.natCast_mul]; omega
    by_cases ht : 4294967296 * Lf + a0 < D * v2
    . have t1 : bits .or .u64 ((Lf : Int) * 4294967296) (a0 : Int) < (D : Int) * (v2 : Int) := by rw [Hor.out, <- Int.natCast_mul]; omega
      have Hdec := Lib.hid (knuth_dec HM.out.1 HM.out.2.2.2.1 HM.out.2.1 Ht.out ht)
      obtain ⟨D', rfl⟩ : ∃ D', D = D' + 1 := ⟨D - 1, by
       rcases Nat.eq_zero_or_pos D with e | e
       . rw [e, Nat.zero_mul] at ht; omega
       . omega⟩
      have Ht' : Hid (D' * v1 + (Lf + v1) = a1 + 4294967296 * a2) := by have := Ht.out; rw [Nat.add_mul, Nat.one_mul] at this; rw [Hid]; omega
      rw [Int.natCast_add, Int.natCast_one] at p1 p0 t1
      clear g1
      have g1 : decide ((4294967296 : Int) <= (D' : Int) + 1) = false := by rw [decide_eq_false_iff_not]; omega
      clear ht hD
      by_cases hb : Lf + v1 < 4294967296
      . have hb' : decide ((4294967296 : Int) <= (Lf : Int) + (v1 : Int)) = false := by rw [decide_eq_false_iff_not]; omega
        have Hbb := Lib.hid hb
        clear hb
        go_wp2
        go_round
        case rel => exact ⟨D', Lf + v1, by go_num, by go_num, by omega, Hbb.out, Ht', Hdec⟩
        case measure => simp [intOf]
      . have hb' : decide ((4294967296 : Int) <= (Lf : Int) + (v1 : Int)) = true := by rw [decide_eq_true_iff]; omega
        have hD' : D' < 4294967296 := by
         have h1 := Ht'.out
         have h2 := HM.out.2.2.2.2.2
         have h3 := Nat.mul_le_mul_left 4294967296 h2
         rcases Nat.lt_or_ge D' 4294967296 with h4 | h4
         . exact h4
         . have := Nat.mul_le_mul_right v1 h4
           omega
        have HK := Lib.hid (knuth_ok HM.out.1 HM.out.2.1 HM.out.2.2.1 hv1 b2 Ht'.out hD' (.inr (Nat.le_of_not_lt hb)))
        go_wp2_with fail
        refine (subProduct_of g off c B q2 q3 d D' (some ad) zs ys W1 (by have := HE.out; omega) hrW hoff hz hl hW' hB hD').mono ?_
        rintro e w1 ⟨zs', b, rfl, hr1, ho1, hs1, hv1', hg1⟩
        have HV1 := Lib.hid hv1'
        have HS1 := Lib.hid (And.intro hs1 (And.intro ho1 (grown_trans hgW hg1)))
        clear hv1' hs1 ho1
        cases b
        . have HV2 := Lib.hid (show wv zs' off q3 + val ys * D' = wv zs off q3 by simpa using HV1.out)
          go_wp2
          go_ret
          exact digit_keep hD' hr1 HS1.out.2.1 HS1.out.1 HS1.out.2.2 Hdec.out HV2.out
        . have HV2 := Lib.hid (show wv zs' off q3 + val ys * D' = wv zs off q3 + 4294967296 ^ q3 * 1 by simpa using HV1.out)
          have hQ := wv_lt HS1.out.2.1 off q3
          have hD1 : 1 <= D' := by
           rcases Nat.eq_zero_or_pos D' with e | e
           . have := HV2.out; rw [e, Nat.mul_zero] at this; omega
           . exact e
          have HQ := Lib.hid hQ
          clear hQ
          go_wp2_with fail
          refine (addTo_any g off q3 c B q2 d (some ad) zs' ys w1 hr1 (by rw [HS1.out.1.1]; exact hoff) HS1.out.2.1 hl (hW'.grown hg1 (by have := hrW.lt; omega) hB) hB (by omega)).mono ?_
          rintro e w2 ⟨rfl, zs'', cy, hcy, hr2, ho2, hs2, hv2, hg2⟩
          have HV3 := Lib.hid hv2
          have hQ2 := wv_lt ho2 off q3
          have R := Lib.hid (digit_less (D := D') hD' hr2 ho2 HS1.out.1 hs2 HS1.out.2.2 hg2 hQ2 HQ.out hcy HK.out HV2.out HV3.out)
          clear hQ2 hv2 hs2
          go_wp2
          rw [show ((D' : Nat) : Int) - 1 = ((D' - 1 : Nat) : Int) by omega]
          go_ret
          exact R.out
    . have t1 : (D : Int) * (v2 : Int) <= bits .or .u64 ((Lf : Int) * 4294967296) (a0 : Int) := by rw [Hor.out, <- Int.natCast_mul]; omega
      have Hle := Lib.hid (Nat.le_of_not_lt ht)
      clear ht
      have HK := Lib.hid (knuth_ok HM.out.1 HM.out.2.1 HM.out.2.2.1 hv1 b2 Ht.out hD (.inl Hle.out))
      go_wp2_with fail
      refine (subProduct_of g off c B q2 q3 d D (some ad) zs ys W1 (by have := HE.out; omega) hrW hoff hz hl hW' hB hD).mono ?_
      rintro e w1 ⟨zs', b, rfl, hr1, ho1, hs1, hv1', hg1⟩
      have HV1 := Lib.hid hv1'
      have HS1 := Lib.hid (And.intro hs1 (And.intro ho1 (grown_trans hgW hg1)))
      clear hv1' hs1 ho1
      cases b
      . have HV2 := Lib.hid (show wv zs' off q3 + val ys * D = wv zs off q3 by simpa using HV1.out)
        go_wp2
        go_ret
        exact digit_keep hD hr1 HS1.out.2.1 HS1.out.1 HS1.out.2.2 Hq.out HV2.out
      . have HV2 := Lib.hid (show wv zs' off q3 + val ys * D = wv zs off q3 + 4294967296 ^ q3 * 1 by simpa using HV1.out)
        have hQ := wv_lt HS1.out.2.1 off q3
        have hD1 : 1 <= D := by
         rcases Nat.eq_zero_or_pos D with e | e
         . have := HV2.out; rw [e, Nat.mul_zero] at this; omega
         . exact e
        have HQ := Lib.hid hQ
        clear hQ
        go_wp2_with fail
        refine (addTo_any g off q3 c B q2 d (some ad) zs' ys w1 hr1 (by rw [HS1.out.1.1]; exact hoff) HS1.out.2.1 hl (hW'.grown hg1 (by have := hrW.lt; omega) hB) hB (by omega)).mono ?_
        rintro e w2 ⟨rfl, zs'', cy, hcy, hr2, ho2, hs2, hv2, hg2⟩
        have HV3 := Lib.hid hv2
        have hQ2 := wv_lt ho2 off q3
        have R := Lib.hid (digit_less (D := D) hD hr2 ho2 HS1.out.1 hs2 HS1.out.2.2 hg2 hQ2 HQ.out hcy HK.out HV2.out HV3.out)
        clear hQ2 hv2 hs2
        go_wp2
        rw [show ((D : Nat) : Int) - 1 = ((D - 1 : Nat) : Int) by omega]
        go_ret
        exact R.out
  . have g1 : decide ((4294967296 : Int) <= (D : Int)) = true := by rw [decide_eq_true_iff]; omega
    have Hdec : Hid (wv zs off q3 < D * val ys) := by
     refine Nat.lt_of_lt_of_le HM.out.2.2.2.2.1 ?_
     rw [Nat.mul_comm D]; exact Nat.mul_le_mul_left _ (by omega)
    obtain ⟨D', rfl⟩ : ∃ D', D = D' + 1 := ⟨D - 1, by omega⟩
    have Ht' : Hid (D' * v1 + (Lf + v1) = a1 + 4294967296 * a2) := by have := Ht.out; rw [Nat.add_mul, Nat.one_mul] at this; rw [Hid]; omega
    clear g1
    have g1 : decide ((4294967296 : Int) <= (D' : Int) + 1) = true := by rw [decide_eq_true_iff]; omega
    clear hD
    by_cases hb : Lf + v1 < 4294967296
    . have hb' : decide ((4294967296 : Int) <= (Lf : Int) + (v1 : Int)) = false := by rw [decide_eq_false_iff_not]; omega
      have Hbb := Lib.hid hb
      clear hb
      go_wp2
      go_round
      case rel => exact ⟨D', Lf + v1, by go_num, by go_num, by omega, Hbb.out, Ht', Hdec⟩
      case measure => simp [intOf]
    . have hb' : decide ((4294967296 : Int) <= (Lf : Int) + (v1 : Int)) = true := by rw [decide_eq_true_iff]; omega
      have hD' : D' < 4294967296 := by
       have h1 := Ht'.out
       have h2 := HM.out.2.2.2.2.2
       have h3 := Nat.mul_le_mul_left 4294967296 h2
       rcases Nat.lt_or_ge D' 4294967296 with h4 | h4
       . exact h4
       . have := Nat.mul_le_mul_right v1 h4
         omega
      have HK := Lib.hid (knuth_ok HM.out.1 HM.out.2.1 HM.out.2.2.1 hv1 b2 Ht'.out hD' (.inr (Nat.le_of_not_lt hb)))
      go_wp2_with fail
      refine (subProduct_of g off c B q2 q3 d D' (some ad) zs ys W1 (by have := HE.out; omega) hrW hoff hz hl hW' hB hD').mono ?_
      rintro e w1 ⟨zs', b, rfl, hr1, ho1, hs1, hv1', hg1⟩
      have HV1 := Lib.hid hv1'
      have HS1 := Lib.hid (And.intro hs1 (And.intro ho1 (grown_trans hgW hg1)))
      clear hv1' hs1 ho1
      cases b
      . have HV2 := Lib.hid (show wv zs' off q3 + val ys * D' = wv zs off q3 by simpa using HV1.out)
        go_wp2
        go_ret
        exact digit_keep hD' hr1 HS1.out.2.1 HS1.out.1 HS1.out.2.2 Hdec.out HV2.out
      . have HV2 := Lib.hid (show wv zs' off q3 + val ys * D' = wv zs off q3 + 4294967296 ^ q3 * 1 by simpa using HV1.out)
        have hQ := wv_lt HS1.out.2.1 off q3
        have hD1 : 1 <= D' := by
         rcases Nat.eq_zero_or_pos D' with e | e
         . have := HV2.out; rw [e, Nat.mul_zero] at this; omega
         . exact e
        have HQ := Lib.hid hQ
        clear hQ
        go_wp2_with fail
        refine (addTo_any g off q3 c B q2 d (some ad) zs' ys w1 hr1 (by rw [HS1.out.1.1]; exact hoff) HS1.out.2.1 hl (hW'.grown hg1 (by have := hrW.lt; omega) hB) hB (by omega)).mono ?_
        rintro e w2 ⟨rfl, zs'', cy, hcy, hr2, ho2, hs2, hv2, hg2⟩
        have HV3 := Lib.hid hv2
        have hQ2 := wv_lt ho2 off q3
        have R := Lib.hid (digit_less (D := D') hD' hr2 ho2 HS1.out.1 hs2 HS1.out.2.2 hg2 hQ2 HQ.out hcy HK.out HV2.out HV3.out)
        clear hQ2 hv2 hs2
        go_wp2
        rw [show ((D' : Nat) : Int) - 1 = ((D' - 1 : Nat) : Int) by omega]
        go_ret
        exact R.out
end Go.Proofs.YtmncfbfepdbioaaGreatDoor
namespace Go.Proofs.YtmncfbfepdbioaaGreatDoor
open Go.RowKit
theorem norm_len {xs ds : List Nat} {m s : Nat} (hx : Ok xs) (nx : Nz xs) (hl : xs.length = m + 1) (hd : Ok ds) (nd : Nz ds) (hs : s + nbits (lim xs m) = 32) (hv : val ds = val xs * 2 ^ s) : ds.length = m + 1 := by
 have hb := nbits_val hx nx hl
 have h0 : val xs ≠ 0 := by have := val_pos nx (by rintro rfl; simp at hl); omega
 have a := nbits_lt (val xs)
 have b := nbits_ge h0
 have p := nbits_pos h0
 have e : ∀ k, (4294967296 : Nat) ^ k = 2 ^ (32 * k) := fun k => by rw [show (4294967296 : Nat) = 2 ^ 32 by decide, <- Nat.pow_mul]
 have up : val ds < 4294967296 ^ (m + 1) := by
  rw [hv, e, show 32 * (m + 1) = nbits (val xs) + s by omega, Nat.pow_add]
  exact Nat.mul_lt_mul_of_pos_right a (Nat.pow_pos (by decide))
 have lo : 4294967296 ^ m <= val ds := by
  rw [hv, e]
  refine Nat.le_trans (Nat.pow_le_pow_right (by decide) (show 32 * m <= (nbits (val xs) - 1) + s by omega)) ?_
  rw [Nat.pow_add]
  exact Nat.mul_le_mul_right _ b
 have h1 := length_le nd up
 rcases Nat.lt_or_ge ds.length (m + 1) with h2 | h2
 . exfalso
   have c := val_lt hd
   have d : (4294967296 : Nat) ^ ds.length <= 4294967296 ^ m := Nat.pow_le_pow_right (by decide) (by omega)
   omega
 . omega
theorem val_split (zs : List Nat) (j k r : Nat) (h : zs.length = j + (k + r)) : val zs = wv zs 0 j + 4294967296 ^ j * (wv zs j k + 4294967296 ^ k * wv zs (j + k) r) := by
 rw [<- wv_all zs (k := j + (k + r)) (by omega), wv_add, Nat.zero_add, wv_add]
theorem val_set0 {qs : List Nat} {j q : Nat} (hj : j < qs.length) (h0 : lim qs j = 0) : val (qs.set j q) = val qs + 4294967296 ^ j * q := by
 have a := val_split qs j 1 (qs.length - j - 1) (by omega)
 have b := val_split (qs.set j q) j 1 (qs.length - j - 1) (by rw [List.length_set]; omega)
 have e1 : wv (qs.set j q) 0 j = wv qs 0 j := wv_set_past (by omega)
 have e2 : wv (qs.set j q) j 1 = q := by simp only [wv, Nat.pow_zero, Nat.one_mul, Nat.zero_add, Nat.add_zero]; exact lim_set_eq hj
 have e3 : wv (qs.set j q) (j + 1) (qs.length - j - 1) = wv qs (j + 1) (qs.length - j - 1) := wv_congr fun i _ => lim_set_ne (by omega)
 have e4 : wv qs j 1 = 0 := by simp only [wv, Nat.pow_zero, Nat.one_mul, Nat.zero_add, Nat.add_zero]; exact h0
 rw [b, a, e1, e2, e3, e4, Nat.zero_add, Nat.mul_add]
 omega
theorem dl_window {zr : List Nat} {n j r D : Nat} (hl : zr.length = j + ((n + 1) + r)) (hb : val zr < D * 4294967296 ^ (j + 1)) : wv zr j (n + 1) < D * 4294967296 := by
 rw [val_split zr j (n + 1) r hl, show D * 4294967296 ^ (j + 1) = 4294967296 ^ j * (D * 4294967296) by rw [Nat.pow_succ, Nat.mul_left_comm]] at hb
 refine Nat.lt_of_mul_lt_mul_left (a := 4294967296 ^ j) (Nat.lt_of_le_of_lt ?_ hb)
 rw [Nat.mul_add]
 omega
theorem dl_step {zr zs' qr : List Nat} {n j r D U0 q : Nat} (hl : zr.length = j + ((n + 1) + r)) (hD : D < 4294967296 ^ n) (hD0 : 0 < D) (hs : Same zr zs' j (j + (n + 1))) (hq : wv zr j (n + 1) / D = q) (hr : wv zs' j (n + 1) = wv zr j (n + 1) % D) (hz : Ok zs')
 (hv : val zr + D * val qr = U0) (hb : val zr < D * 4294967296 ^ (j + 1)) (hj : j < qr.length) (h0 : ∀ i, i < j + 1 -> lim qr i = 0) :
 val zs' + D * val (qr.set j q) = U0 /\ val zs' < D * 4294967296 ^ j /\ (∀ i, i < j -> lim (qr.set j q) i = 0) := by
 have a := val_split zr j (n + 1) r hl
 have b := val_split zs' j (n + 1) r (by rw [hs.1]; exact hl)
 have e1 : wv zs' 0 j = wv zr 0 j := hs.wv_past (.inl (by omega))
 have e2 : wv zs' (j + (n + 1)) r = wv zr (j + (n + 1)) r := hs.wv_past (.inr (Nat.le_refl _))
 have dm := Nat.div_add_mod (wv zr j (n + 1)) D
 have ml := Nat.mod_lt (wv zr j (n + 1)) hD0
 have rest : wv zr (j + (n + 1)) r = 0 := by
  rcases Nat.eq_zero_or_pos (wv zr (j + (n + 1)) r) with e | e
  . exact e
  . exfalso
    have c1 : 4294967296 ^ j * (4294967296 ^ (n + 1) * 1) <= val zr := by
     rw [a]
     refine Nat.le_trans (Nat.mul_le_mul_left _ (Nat.le_trans (Nat.mul_le_mul_left _ e) (Nat.le_add_left _ _))) (Nat.le_add_left _ _)
    have c2 : D * 4294967296 ^ (j + 1) <= 4294967296 ^ n * 4294967296 ^ (j + 1) := Nat.mul_le_mul_right _ (Nat.le_of_lt hD)
    have c3 : 4294967296 ^ n * 4294967296 ^ (j + 1) = 4294967296 ^ j * (4294967296 ^ (n + 1) * 1) := by
     rw [Nat.mul_one, <- Nat.pow_add, <- Nat.pow_add]; congr 1; omega
    omega
 rw [rest, Nat.mul_zero, Nat.add_zero] at a
 rw [e1, e2, hr, rest, Nat.mul_zero, Nat.add_zero] at b
 have w1 := wv_lt hz 0 j
 rw [e1] at w1
 rw [hq] at dm
 generalize wv zr j (n + 1) % D = R at *
 generalize wv zr j (n + 1) = U at *
 refine ⟨?_, ?_, fun i hi => ?_⟩
 . rw [val_set0 hj (h0 j (by omega)), Nat.mul_add, b, <- hv, a, <- dm, Nat.mul_add, Nat.mul_left_comm D]
   omega
 . rw [b, Nat.mul_comm D]
   have : 4294967296 ^ j * (R + 1) <= 4294967296 ^ j * D := Nat.mul_le_mul_left _ ml
   rw [Nat.mul_add, Nat.mul_one] at this
   omega
 . rw [lim_set_ne (by omega)]; exact h0 i (by omega)
theorem dl_start {a b s N n : Nat} (ha : a < 4294967296 ^ N) (hb : 4294967296 ^ (n - 1) <= b) (hn : 0 < n) (hN : n <= N) : a * 2 ^ s < b * 2 ^ s * 4294967296 ^ (N - n + 1) := by
 have h1 : 4294967296 ^ N <= b * 4294967296 ^ (N - n + 1) := by
  refine Nat.le_trans (Nat.le_of_eq ?_) (Nat.mul_le_mul_right _ hb)
  rw [<- Nat.pow_add]; congr 1; omega
 rw [Nat.mul_right_comm]
 exact Nat.mul_lt_mul_of_pos_right (Nat.lt_of_lt_of_le ha h1) (Nat.pow_pos (by decide))
theorem dl_end {a b s Q R : Nat} (h : R + b * 2 ^ s * Q = a * 2 ^ s) (hR : R < b * 2 ^ s) : a / b = Q /\ R / 2 ^ s = a % b := by
 have hp : 0 < 2 ^ s := Nat.pow_pos (by decide)
 have e1 : a * 2 ^ s / (b * 2 ^ s) = Q /\ a * 2 ^ s % (b * 2 ^ s) = R := by
  have := knuth_div (U := a * 2 ^ s) (V := b * 2 ^ s) (q := Q) (R := R) (by rw [Nat.mul_comm Q]; exact h) hR
  exact this
 rw [Nat.mul_div_mul_right _ _ hp, Nat.mul_mod_mul_right] at e1
 exact ⟨e1.1, by rw [<- e1.2, Nat.mul_div_cancel _ hp]⟩
theorem fresh_below (w : World) (o : Obj) : Below w.heap.size w (w.alloc o) := (Below.refl _ _).alloc (Nat.le_refl _) _
structure Dl (w wr : World) (g g' Bd : Nat) (Ad : Option Addr) (n cd : Nat) (ds : List Nat) (N L U0 D J : Nat) (zr qr : List Nat) : Prop where
 lz : zr.length = N + 1
 rz : Row wr g zr
 oz : Ok zr
 lq : qr.length = L
 rq : Row wr g' qr
 oq : Ok qr
 low : ∀ i, i < J -> lim qr i = 0
 sum : val zr + D * val qr = U0
 lt : val zr < D * 4294967296 ^ J
 sl : Sl wr Bd Ad n cd ds
 bel : Below w.heap.size w wr
theorem divLong_any (A A' : Option Addr) (N c m n c' : Nat) (xs ys : List Nat) (w : World) (hn : n = m + 2) (h : Sl w w.heap.size A N c xs) (h' : Sl w w.heap.size A' n c' ys) (hy : Nz ys) (hN : n <= N) (hN9 : N <= 1000000) :
 Calls Tryz.prog 175 #[.slice A N c, .slice A' n c'] w (RetNum2 (val xs / val ys) (val xs % val ys) w) := by
 have hcap' := h'.cap
 have hcr' := h'.capr
 have hlx := h.len
 have hly := h'.len
 have ht := h'.ok.lim (m + 1)
 have hyne : ys ≠ [] := by rintro rfl; simp at hly; omega
 have ht0 : lim ys (m + 1) ≠ 0 := by
  have := (nz_iff hyne).1 hy
  rwa [hly, show n - 1 = m + 1 by omega] at this
 have hb1 := nbits_limb ht
 have hb2 := nbits_pos ht0
 obtain ⟨s, hs⟩ : ∃ s, s + nbits (lim ys (m + 1)) = 32 := ⟨32 - nbits (lim ys (m + 1)), by omega⟩
 have hs31 : s < 32 := by omega
 have Hwd := Lib.hid (nbits_word (lim ys (m + 1)) (by omega))
 obtain ⟨ad, rfl, hadb, y1⟩ := h'.cell (k := m + 1) (by omega)
 have Hs := Lib.hid hs
 have HM := Lib.hid (And.intro hlx (And.intro hly hn))
 have i1 : (n : Int) - 1 = ((m + 1 : Nat) : Int) := by omega
 obtain ⟨m1, hm1⟩ : ∃ m1, m1 = m + 1 := ⟨_, rfl⟩
 rw [<- hm1] at y1 i1 ht Hwd
 have Hm1 := Lib.hid hm1
 have i2 : (m1 : Int) < (n : Int) := by omega
 clear hlx hly hs hn hm1 ht0 hb1 hb2
 go_enter Tryz.func175, Tryz.ntmps175
 go_wp2_with fail
 refine (Tryz.bits_LeadingZeros32 _ _ (by omega) (by omega)).mono ?_
 rintro e w' ⟨rfl, rfl⟩
 rw [show ((lim ys m1 : Nat) : Int).toNat = lim ys m1 by omega, Hwd.out, show (32 : Int) - (nbits (lim ys m1) : Int) = (s : Int) by rw [Hm1.out]; have := Hs.out; omega]
 clear y1
 have hl0 : (s : Int) / 32 = ((0 : Nat) : Int) := by omega
 have hl1 : (s : Int) % 32 = (s : Int) := by omega
 have HL := Lib.hid (And.intro hl0 hl1)
 clear hl0 hl1
 have hn9 : n <= 1000000 := by omega
 go_wp2_with fail
 refine (shiftLeft_any (some ad) n c' s 0 s ys w' h' hn9 (by omega) HL.out.1 HL.out.2).mono ?_
 rintro e w1 ⟨A1, n1, c1, ds, rfl, hsd, hxd, hvd, hbn1⟩
 have hnl : n1 = n := by
  have := norm_len h'.ok hy (m := m + 1) (by rw [HM.out.2.1]; exact HM.out.2.2) hsd.ok hxd Hs.out hvd
  rw [hsd.len] at this
  rw [this]; exact HM.out.2.2.symm
 subst hnl
 have HD := Lib.hid (And.intro hvd hxd)
 clear hvd hxd
 have hsx := h.on hbn1
 have hmk := make_any ((N : Int) + 1) (N + 1) (by omega) (by omega)
 have Hr0 := Lib.hid (Row.made w1 (N + 1))
 have hb2 := fresh_below w1 (.cells (zrow (N + 1)) 44)
 have hsx2 := hsx.on hb2
 have hsd2 := hsd.alloc (Nat.le_refl _) (.cells (zrow (N + 1)) 44)
 have HB2 := Lib.hid (below_chain hbn1 hbn1.size hb2)
 clear hb2 hsx
 go_wp2_with fail
 refine (shiftLeft_any A N c s 0 s xs _ hsx2 hN9 (by omega) HL.out.1 HL.out.2).mono ?_
 rintro e w2 ⟨A2, n2, c2, us', rfl, hsu, hxu, hvu, hbn2⟩
 have hlen2 : us'.length <= N + 1 := by
  refine length_le hxu ?_
  rw [hvu, Nat.pow_succ]
  have a := val_lt h.ok
  rw [HM.out.1] at a
  have b : 2 ^ s <= 2 ^ 32 := Nat.pow_le_pow_right (by decide) (by omega)
  rw [show (2 : Nat) ^ 32 = 4294967296 by decide] at b
  exact Nat.lt_of_lt_of_le (Nat.mul_lt_mul_of_pos_right a (Nat.pow_pos (by decide))) (Nat.mul_le_mul_left _ b)
 have htk : us'.take (N + 1) = us' := List.take_of_length_le hlen2
 have E2 := Lib.hid (And.intro htk (And.intro hvu hlen2))
 have hg1 : w1.heap.size < (w1.alloc (.cells (zrow (N + 1)) 44)).heap.size := by simp
 have hr2 : Row w2 w1.heap.size (List.replicate (N + 1) 0) := Hr0.out.below hbn2 hg1
 have hsd3 := hsd2.below (hbn2.mono (Nat.le_of_lt hg1))
 have HB3 := Lib.hid (below_chain HB2.out (by have := HB2.out.size; omega) hbn2)
 have hz2 := hr2.lt
 clear htk hvu hlen2 hbn2 hsd2 hsx2 hg1
 obtain ⟨L, hL⟩ : ∃ L, L + n1 = N + 1 := ⟨N + 1 - n1, by omega⟩
 have i3 : (N : Int) - (n1 : Int) + 1 = (L : Int) := by omega
 have hmk2 := make_any (L : Int) L rfl (by omega)
 have HLL := Lib.hid hL
 clear hL
 go_wp2_with (with_reducible refine copy_us rfl (.tmp 26) (.tmp 29) rfl w1.heap.size 0 (N + 1) (N + 1) n2 c2 w2.heap.size A2 us' _ rfl rfl hr2 hsu (by rw [List.length_replicate]; omega) ?_; intro w3 hw hb3)
 rw [E2.out.1] at hw
 have Hr3 := Lib.hid hw
 have hz3 := hw.lt
 have Hsd3 := Lib.hid (hsd3.below (hb3.mono (Nat.le_refl _)))
 have HB4 := Lib.hid (HB3.out.trans (hb3.mono hbn1.size))
 clear hw hb3 hr2 hsd3
 go_wp2
 have Hq0 := Lib.hid (Row.made w3 L)
 have HB5 := Lib.hid (HB4.out.alloc (by have := HB4.out.size; omega) (.cells (zrow L) 44))
 have Hne : w1.heap.size ≠ w3.heap.size := by omega
 have hDp : 0 < val ds := by
  rw [HD.out.1]
  exact Nat.mul_pos (val_pos hy hyne) (Nat.pow_pos (by decide))
 have HDlt := Lib.hid (show val ds < 4294967296 ^ n1 by have := val_lt hsd.ok; rwa [hsd.len] at this)
 have HB6 : w'.heap.size <= w1.heap.size := hbn1.size
 go_loopw [11, 40] (fun _ iv wr => ∃ (k J : Nat) (zr qr : List Nat), k + J = L /\ iv = .int .i64 k /\ Hid (Dl w' wr w1.heap.size w3.heap.size w1.heap.size A1 n1 c1 ds N L (val xs * 2 ^ s) (val ds) J zr qr)) (fun _ iv _ => L - (intOf iv).toNat)
 case atStart =>
  refine ⟨0, L, _, _, by omega, rfl, ⟨?_, Hr3.out.alloc _, (ok_zeros _).over hsu.ok _, List.length_replicate, Hq0.out, ok_zeros _, fun i _ => lim_zeros _ _, ?_, ?_, Hsd3.out.alloc (by omega) _, HB5.out⟩⟩
  . rw [over_length (by rw [List.length_replicate]; have := E2.out.2.2; omega), List.length_replicate]
  . rw [val_zeros, Nat.mul_zero, Nat.add_zero, <- wv_all _ (k := N + 1) (by rw [over_length (by rw [List.length_replicate]; have := E2.out.2.2; omega), List.length_replicate]; exact Nat.le_refl _), wv_over_zeros E2.out.2.2, E2.out.2.1]
  . rw [<- wv_all _ (k := N + 1) (by rw [over_length (by rw [List.length_replicate]; have := E2.out.2.2; omega), List.length_replicate]; exact Nat.le_refl _), wv_over_zeros E2.out.2.2, E2.out.2.1, HD.out.1]
    have a := val_lt h.ok
    rw [HM.out.1] at a
    have b := val_ge hy hyne
    rw [HM.out.2.1] at b
    have := dl_start (s := s) a b (by have := HM.out.2.2; omega) hN
    rwa [show N - n1 + 1 = L by have := HLL.out; omega] at this
 case round =>
  obtain ⟨k, J, zr, qr, hkJ, rfl, HDl⟩ := hrel
  by_cases hkL : k < L
  . obtain ⟨j, rfl⟩ : ∃ j, J = j + 1 := ⟨J - 1, by omega⟩
    have i4 : (L : Int) - 1 - (k : Int) = (j : Int) := by omega
    have i5 : (j : Int) <= (j : Int) + (n1 : Int) + 1 := by omega
    have i6 : (j : Int) + (n1 : Int) + 1 <= (N : Int) + 1 := by have := HLL.out; omega
    have i7 : ((j : Int) + (n1 : Int) + 1).toNat = j + n1 + 1 := by omega
    have i8 : (j : Int) < (L : Int) := by omega
    have i9 : (0 : Int) <= (j : Int) := by omega
    have hne : ¬ N + 1 = j := by have := HLL.out; omega
    have HkJ := Lib.hid hkJ
    clear hkJ
    have Hwin := Lib.hid (dl_window (n := n1) (r := N - j - n1) (by rw [HDl.out.lz]; have := HLL.out; have := HkJ.out; omega) HDl.out.lt)
    go_wp2_with fail
    refine (takeDigit_raw w1.heap.size j _ w1.heap.size m m1 n1 _ _ _ zr ds wr Hm1.out HM.out.2.2 (by have := HM.out.2.2; omega) HDl.out.rz (by rw [HDl.out.lz]; have := HLL.out; have := HkJ.out; omega) HDl.out.oz (by have := HLL.out; have := HkJ.out; omega) HDl.out.sl (Nat.le_refl _) HD.out.2 (by rw [show j + n1 + 1 - j = n1 + 1 by omega]; exact Hwin.out)).mono ?_
    rintro e w4 ⟨zs', q, rfl, hq, hq9, hr4, ho4, hs4, hv4, hg4⟩
    rw [show j + n1 + 1 - j = n1 + 1 by omega] at hq hs4 hv4
    have HX := Lib.hid (And.intro hq (And.intro hs4 hv4))
    clear hq hs4 hv4
    have hq4 : Row w4 w3.heap.size qr := HDl.out.rq.grown hg4 (by simpa using Hne.symm)
    have c1 := hq4.cell (i := j) (by rw [HDl.out.lq]; have := HkJ.out; omega)
    have f1 := hq4.free j
    go_wp2
    have st := dl_step (n := n1) (r := N - j - n1) (by rw [HDl.out.lz]; have := HLL.out; have := HkJ.out; omega) HDlt.out hDp HX.out.2.1 HX.out.1 HX.out.2.2 ho4 HDl.out.sum HDl.out.lt (by rw [HDl.out.lq]; have := HkJ.out; omega) HDl.out.low
    have hz4 := hr4.lt
    have hzw := HDl.out.rz.lt
    refine ⟨⟨k + 1, j, zs', qr.set j q, by have := HkJ.out; omega, by go_num, ?_⟩, by simp [intOf]; omega⟩
    exact ⟨by rw [HX.out.2.1.1]; exact HDl.out.lz, hr4.far Hne _, ho4, by rw [List.length_set]; exact HDl.out.lq, hq4.set j q, HDl.out.oq.set j hq9, st.2.2, st.1, st.2.1, (HDl.out.sl.grown hg4 (Nat.le_of_lt hzw) (Nat.le_refl _)).setCell (by simp; omega) _, (below_grown HDl.out.bel hg4 HB6 (by omega)).setCell (by simp; omega) _⟩
  . obtain rfl : J = 0 := by omega
    have hR := HDl.out.lt
    rw [Nat.pow_zero, Nat.mul_one] at hR
    have hsum := HDl.out.sum
    rw [HD.out.1] at hR hsum
    have HE := Lib.hid (dl_end hsum hR)
    clear hR hsum
    have hz1 := HDl.out.rz.lt
    have hz2 := HDl.out.rq.lt
    have hsq := HDl.out.rq.sl (B := wr.heap.size) (n := L) (c := L) hz2 0 (by rw [HDl.out.lq]; omega) (Nat.le_refl _) (by omega) HDl.out.oq
    rw [List.drop_zero, List.take_of_length_le (by rw [HDl.out.lq]; omega)] at hsq
    have hsz := HDl.out.rz.sl (B := wr.heap.size) (n := N + 1) (c := N + 1) hz1 0 (by rw [HDl.out.lz]; omega) (Nat.le_refl _) (by omega) HDl.out.oz
    rw [List.drop_zero, List.take_of_length_le (by rw [HDl.out.lz]; omega)] at hsz
    go_wp2_with fail
    refine (trim_any _ _ _ _ qr wr hsq).mono ?_
    rintro e w5 ⟨⟨j1, hj1, rfl, hnz1, hv1⟩, rfl⟩
    have HV1 := Lib.hid hv1
    clear hv1
    go_wp2_with fail
    refine (trim_any _ _ _ _ zr wr hsz).mono ?_
    rintro e w5 ⟨⟨j2, hj2, rfl, hnz2, hv2⟩, rfl⟩
    have HV2 := Lib.hid hv2
    clear hv2
    go_wp2_with fail
    refine (shiftRight_any _ j2 _ s 0 s (zr.take j2) wr (hsz.to hj2) (by omega) HL.out.1 HL.out.2).mono ?_
    rintro e w6 ⟨A6, n6, c6, xs6, rfl, hs6, hx6, hv6, hbn6⟩
    have HV6 := Lib.hid hv6
    clear hv6
    go_wp2
    go_ret2
    exact ⟨_, _, _, _, A6, n6, c6, xs6, rfl, (hsq.to hj1).on hbn6, hnz1, by rw [HV1.out, HE.out.1], hs6, hx6, by rw [HV6.out, HV2.out, HE.out.2], below_chain HDl.out.bel HDl.out.bel.size hbn6⟩
theorem divMag_long (xs ys : List Nat) (hx : Nz xs) (hy : Nz ys) (ox : Ok xs) (hle : val ys <= val xs) (h2 : 2 <= ys.length) (h9 : xs.length <= 1000000) : DivSpec xs ys := by
 intro A A' n c n' c' w h h'
 have hnn : n' <= n := by
  rcases Nat.lt_or_ge n n' with hlt | hge
  . have := val_lt_of_length ox hy (by rw [h.len, h'.len]; exact hlt)
    omega
  . exact hge
 have hm : n' = (n' - 2) + 2 := by have := h'.len; omega
 have hn9 : n <= 1000000 := by have := h.len; omega
 have Hm := Lib.hid hm
 clear hm
 have hc : 0 <= cmpv (val xs) (val ys) := by
  rcases Nat.lt_or_ge (val ys) (val xs) with h1 | h1
  . rw [cmpv_gt h1]; omega
  . have e : val xs = val ys := by omega
    rw [e, cmpv_eq]; omega
 have i1 : ((n' : Int) == 1) = false := by rw [beq_eq_false_iff_ne]; have := Hm.out; omega
 clear hle h2
 go_enter Tryz.func142, Tryz.ntmps142
 go_wp2_with fail
 refine (cmpMag_any _ _ _ _ _ _ _ _ xs ys _ h h' hx hy).mono ?_
 rintro e w0 ⟨rfl, q, rfl⟩
 generalize cmpv (val xs) (val ys) = cv at *
 have hs : Sl (w.drewN q) (w.drewN q).heap.size A n c xs := h.drewN q
 have hs' : Sl (w.drewN q) (w.drewN q).heap.size A' n' c' ys := h'.drewN q
 go_wp2_with fail
 refine (divLong_any A A' n c (n' - 2) n' c' xs ys _ Hm.out hs hs' hy hnn hn9).mono ?_
 rintro e w1 ⟨A1, n1, c1, xs1, A2, n2, c2, xs2, rfl, h1, k1, v1, h3, k3, v3, hb⟩
 have hb2 := below_undrewN hb
 have HV := Lib.hid (And.intro v1 v3)
 clear v1 v3 hb
 go_wp2
 go_ret2
 exact ⟨A1, n1, c1, xs1, A2, n2, c2, xs2, rfl, h1, k1, HV.out.1, h3, k3, HV.out.2, hb2⟩
theorem divSpec_all (xs ys : List Nat) (hx : Nz xs) (hy : Nz ys) (ox : Ok xs) (h0 : ys ≠ []) (h9 : xs.length <= 1000000) : DivSpec xs ys := by
 rcases Nat.lt_or_ge (val xs) (val ys) with h1 | h1
 . exact divMag_less xs ys hx hy h1
 . have hp := List.length_pos_iff.2 h0
   by_cases h2 : ys.length = 1
   . exact divMag_one xs ys hx hy h1 h2
   . exact divMag_long xs ys hx hy ox h1 (by omega) h9
end Go.Proofs.YtmncfbfepdbioaaGreatDoor
namespace Go.Proofs.YtmncfbfepdbioaaGreatDoor
open Go.RowKit
def fq (a b : Int) : Int := dq (decide (a < 0)) (decide (b < 0)) a.natAbs b.natAbs
def fr (a b : Int) : Int := dr (decide (a < 0)) (decide (b < 0)) a.natAbs b.natAbs
theorem sg_self (z : Int) : sg (decide (z < 0)) z.natAbs = z := sg_dec rfl
theorem dq_spec (neg neg' : Bool) (a b : Nat) (hb : 0 < b) : dq neg neg' a b * sg neg' b + dr neg neg' a b = sg neg a /\ (dr neg neg' a b).natAbs < b /\ (dr neg neg' a b = 0 \/ Int.sign (dr neg neg' a b) = Int.sign (sg neg' b)) /\ (dq neg neg' a b).natAbs <= a := by
 have dm := Nat.div_add_mod a b
 have ml := Nat.mod_lt a hb
 have qle := Nat.div_le_self a b
 have qlt : 0 < a % b -> a / b + 1 <= a := by
  intro h
  rcases Nat.lt_or_ge 1 b with h1 | h1
  . rcases Nat.eq_zero_or_pos (a / b) with h2 | h2
    . have : 0 < a := by
       rcases Nat.eq_zero_or_pos a with h3 | h3
       . subst h3; simp at h
       . exact h3
      omega
    . have := Nat.mul_le_mul_right (a / b) h1
      omega
  . have : b = 1 := by omega
    subst this
    omega
 generalize hq : a / b = q at *
 generalize hr : a % b = r at *
 have e : (b : Int) * (q : Int) + (r : Int) = (a : Int) := by exact_mod_cast dm
 have sb : Int.sign (b : Int) = 1 := Int.sign_eq_one_of_pos (by omega)
 have sb' : Int.sign (-(b : Int)) = -1 := by rw [Int.sign_neg, sb]
 have sr : 0 < r -> Int.sign (r : Int) = 1 := fun h => Int.sign_eq_one_of_pos (by omega)
 rcases Nat.eq_zero_or_pos r with h0 | h0
 . unfold dq dr
   rw [hq, hr, if_neg (by omega), if_neg (by omega)]
   subst h0
   have e0 : (b : Int) * (q : Int) = (a : Int) := by simpa using e
   cases neg <;> cases neg' <;> simp only [sg_true, sg_false, bne_self_eq_false, Bool.bne_true, Bool.bne_false, Bool.not_false] <;>
    refine ⟨?_, by simp; omega, .inl (by simp), by simp; omega⟩
   . rw [Int.mul_comm]; simp [e0]
   . rw [Int.neg_mul_neg, Int.mul_comm]; simp [e0]
   . rw [Int.neg_mul, Int.mul_comm]; simp [e0]
   . rw [Int.mul_neg, Int.mul_comm]; simp [e0]
 . cases neg <;> cases neg'
   . unfold dq dr
     rw [hq, hr, if_neg (by simp), if_neg (by simp)]
     simp only [sg_false, bne_self_eq_false]
     exact ⟨by rw [Int.mul_comm]; exact e, by omega, .inr (by rw [sr h0, sb]), by omega⟩
   . unfold dq dr
     rw [hq, hr, if_pos ⟨rfl, h0⟩, if_pos ⟨rfl, h0⟩]
     simp only [sg_true, sg_false]
     refine ⟨?_, by omega, .inr ?_, by have := qlt h0; omega⟩
     . rw [Int.neg_mul_neg, Int.natCast_add, Int.add_mul, Int.mul_comm (q : Int)]
       simp only [Int.natCast_one, Int.one_mul]
       omega
     . rw [Int.sign_neg, Int.sign_neg, sb, Int.sign_eq_one_of_pos (by omega)]
   . unfold dq dr
     rw [hq, hr, if_pos ⟨rfl, h0⟩, if_pos ⟨rfl, h0⟩]
     simp only [sg_true, sg_false]
     refine ⟨?_, by omega, .inr ?_, by have := qlt h0; omega⟩
     . rw [Int.neg_mul, Int.natCast_add, Int.add_mul, Int.mul_comm (q : Int)]
       simp only [Int.natCast_one, Int.one_mul]
       omega
     . rw [sb, Int.sign_eq_one_of_pos (by omega)]
   . unfold dq dr
     rw [hq, hr, if_neg (by simp), if_neg (by simp)]
     simp only [sg_true, sg_false, bne_self_eq_false]
     exact ⟨by rw [Int.mul_neg, Int.mul_comm]; omega, by omega, .inr (by rw [sb', Int.sign_neg, sr h0]), by omega⟩
theorem fq_spec (a b : Int) (hb : b ≠ 0) : fq a b * b + fr a b = a /\ (fr a b).natAbs < b.natAbs /\ (fr a b = 0 \/ Int.sign (fr a b) = Int.sign b) /\ (fq a b).natAbs <= a.natAbs := by
 have := dq_spec (decide (a < 0)) (decide (b < 0)) a.natAbs b.natAbs (by omega)
 rwa [sg_self, sg_self] at this
def dvQ : Option Int -> Option Int -> Int
 | some a, some b => if b = 0 then 0 else fq a b
 | _, _ => 0
def dvR : Option Int -> Option Int -> Int
 | some a, some b => if b = 0 then 0 else fr a b
 | _, _ => 0
def dvE : Option Int -> Option Int -> Int
 | some _, some b => if b = 0 then 4 else 0
 | _, _ => 1
theorem dvQ_some (a b : Int) : dvQ (some a) (some b) = if b = 0 then 0 else fq a b := rfl
theorem dvR_some (a b : Int) : dvR (some a) (some b) = if b = 0 then 0 else fr a b := rfl
theorem dvE_some (a b : Int) : dvE (some a) (some b) = if b = 0 then 4 else 0 := rfl
theorem ov_lt {neg : Bool} {xs : List Nat} (hx : Ok xs) {a : Int} (h : ov neg xs = some a) : a.natAbs < BIG := by
 rcases hv : vld neg xs with _ | _
 . rw [ov_none hv] at h; cases h
 . rw [ov_some hv] at h
   injection h with h
   rw [<- h, sg_abs]
   have v := vld_true hv
   exact (big_iff hx v.2.1).2 v.1
theorem sg_sign {neg : Bool} {xs : List Nat} (hv : vld neg xs = true) : decide (sg neg (val xs) < 0) = neg := by
 have v := vld_true hv
 cases neg
 . rw [sg_false]; simp
 . have : 0 < val xs := val_pos v.2.1 (fun e => by have := v.2.2 e; cases this)
   rw [sg_true]; simp; omega
theorem divMod_ov {neg neg' : Bool} {A A' : Option Addr} {n c n' c' : Nat} {xs ys : List Nat} {w : World} (h : Sl w w.heap.size A n c xs) (h' : Sl w w.heap.size A' n' c' ys) :
 Calls Tryz.prog 101 #[.agg #[.bool neg, .slice A n c], .agg #[.bool neg', .slice A' n' c']] w (RetI2E (dvQ (ov neg xs) (ov neg' ys)) (dvR (ov neg xs) (ov neg' ys)) (dvE (ov neg xs) (ov neg' ys)) w) := by
 rcases hv : vld neg xs with _ | _
 . rw [ov_none hv]
   exact divMod_bad1 neg neg' A A' n c n' c' xs ys w h h' hv
 . rcases hv' : vld neg' ys with _ | _
   . rw [ov_none hv', ov_some hv]
     exact divMod_bad2 neg neg' A A' n c n' c' xs ys w h h' hv hv'
   . have v := vld_true hv
     have v' := vld_true hv'
     rw [ov_some hv, ov_some hv']
     by_cases h0 : ys = []
     . have e : sg neg' (val ys) = 0 := by rw [h0, v'.2.2 h0, sg_false, val_nil]; rfl
       rw [dvQ_some, dvR_some, dvE_some]
       rw [if_pos e, if_pos e, if_pos e]
       exact divMod_zero neg neg' A A' n c n' c' xs ys w h h' hv hv' h0
     . have hp := val_pos v'.2.1 h0
       have e : ¬ sg neg' (val ys) = 0 := by
        intro e
        have := congrArg Int.natAbs e
        rw [sg_abs] at this
        simp at this; omega
       rw [dvQ_some, dvR_some, dvE_some]
       rw [if_neg e, if_neg e, if_neg e]
       have hd := divMod_good neg neg' A A' n c n' c' xs ys w h h' hv hv' h0 (divSpec_all xs ys v.2.1 v'.2.1 h.ok h0 (by omega))
       unfold fq fr
       rw [sg_sign hv, sg_sign hv', sg_abs, sg_abs]
       exact hd
end Go.Proofs.YtmncfbfepdbioaaGreatDoor
namespace Go.Proofs.YtmncfbfepdbioaaGreatDoor
open Go.RowKit
theorem ov_parts {neg : Bool} {xs : List Nat} {a : Int} (h : ov neg xs = some a) : Nz xs /\ val xs = a.natAbs /\ vld neg xs = true := by
 rcases hv : vld neg xs with _ | _
 . rw [ov_none hv] at h; cases h
 . rw [ov_some hv] at h
   injection h with h
   exact ⟨(vld_true hv).2.1, by rw [<- h, sg_abs], rfl⟩
theorem ov_sign {neg : Bool} {xs : List Nat} {a : Int} (h : ov neg xs = some a) : decide (a < 0) = neg := by
 have hv := (ov_parts h).2.2
 rw [ov_some hv] at h
 injection h with h
 rw [<- h]; exact sg_sign hv
end Go.Proofs.YtmncfbfepdbioaaGreatDoor
namespace Go.Proofs.YtmncfbfepdbioaaGreatDoor
open Go.RowKit
theorem pw_limbs (m : Nat) : (4294967296 : Nat) ^ m = pw (32 * m) := by unfold pw; rw [Nat.pow_mul]
theorem big_pw : BIG = pw 4096 := (pw_limbs 128).trans (congrArg pw (by decide : 32 * 128 = 4096))
theorem pw_add (a b : Nat) : pw (a + b) = pw a * pw b := Nat.pow_add 2 a b
theorem pw_le {a b : Nat} (h : a <= b) : pw a <= pw b := Nat.pow_le_pow_right (by decide) h
end Go.Proofs.YtmncfbfepdbioaaGreatDoor
namespace Go.Proofs.YtmncfbfepdbioaaGreatDoor
open Go.RowKit
end Go.Proofs.YtmncfbfepdbioaaGreatDoor
namespace Go.Proofs.YtmncfbfepdbioaaGreatDoor
open Go.RowKit
end Go.Proofs.YtmncfbfepdbioaaGreatDoor
namespace Go.Proofs.YtmncfbfepdbioaaGreatDoor
open Go.RowKit
theorem wrap64_u64 (z : Int) (h1 : -9223372036854775808 <= z) (h2 : z <= 9223372036854775807) : wrap64 (IntKind.u64.wrap z) = z := by
 rw [IntKind.wrap_u64]; unfold wrap64; omega
end Go.Proofs.YtmncfbfepdbioaaGreatDoor
namespace Go.Proofs.YtmncfbfepdbioaaGreatDoor
open Go.RowKit
def smB : Option Int -> Bool
 | some a => decide (-9223372036854775808 <= a /\ a <= 9223372036854775807)
 | none => false
def smZ (o : Option Int) : Int := if smB o then o.getD 0 else 0
theorem small_bad (neg : Bool) (A : Option Addr) (n c : Nat) (xs : List Nat) (w : World) (h : Sl w w.heap.size A n c xs) (hv : vld neg xs = false) :
 Calls Tryz.prog 164 #[.agg #[.bool neg, .slice A n c]] w fun e w' => e = .returned (.tuple #[.int .i64 0, .bool false]) /\ Below w.heap.size w w' := by
 go_enter Tryz.func164, Tryz.ntmps164
 go_wp2_with fail
 have hs := h.on (below_new w (.cells #[.bool neg, .slice A n c] 25))
 have b0 := Bx.new w neg A n c
 refine (valid_any _ _ _ _ _ xs _ hs (Nat.le_refl _)).mono ?_
 rintro e w1 ⟨rfl, hb1⟩
 have hb := below_chain (below_new w (.cells #[.bool neg, .slice A n c] 25)) (by simp) hb1
 have hs1 := hs.on hb1
 have b1 := b0.below hb1 (by simp)
 have k0 := b1.c0
 have k1 := b1.c1
 clear hb1 b0 hs
 go_wp2
 go_ret2
 exact ⟨rfl, hb⟩
theorem small_long (neg : Bool) (A : Option Addr) (n c : Nat) (xs : List Nat) (w : World) (h : Sl w w.heap.size A n c xs) (hv : vld neg xs = true) (hn : 2 < n) :
 Calls Tryz.prog 164 #[.agg #[.bool neg, .slice A n c]] w fun e w' => e = .returned (.tuple #[.int .i64 0, .bool false]) /\ Below w.heap.size w w' := by
 have d2 : decide (2 < (n : Int)) = true := by simp; omega
 go_enter Tryz.func164, Tryz.ntmps164
 go_wp2_with fail
 have hs := h.on (below_new w (.cells #[.bool neg, .slice A n c] 25))
 have b0 := Bx.new w neg A n c
 refine (valid_any _ _ _ _ _ xs _ hs (Nat.le_refl _)).mono ?_
 rintro e w1 ⟨rfl, hb1⟩
 have hb := below_chain (below_new w (.cells #[.bool neg, .slice A n c] 25)) (by simp) hb1
 have hs1 := hs.on hb1
 have b1 := b0.below hb1 (by simp)
 have k0 := b1.c0
 have k1 := b1.c1
 clear hb1 b0 hs
 go_wp2
 go_ret2
 exact ⟨rfl, hb⟩
theorem small_neg (A : Option Addr) (n c : Nat) (xs : List Nat) (w : World) (h : Sl w w.heap.size A n c xs) (hv : vld true xs = true) (hn : n <= 2) (h1 : (9223372036854775808 : Int) < (val xs : Int)) :
 Calls Tryz.prog 164 #[.agg #[.bool true, .slice A n c]] w fun e w' => e = .returned (.tuple #[.int .i64 0, .bool false]) /\ Below w.heap.size w w' := by
 have d2 : decide (2 < (n : Int)) = false := by simp; omega
 have hlt : val xs < 18446744073709551616 := by
  have a := val_lt h.ok
  rw [h.len] at a
  exact Nat.lt_of_lt_of_le a (show 4294967296 ^ n <= 4294967296 ^ 2 from Nat.pow_le_pow_right (by decide) hn)
 go_enter Tryz.func164, Tryz.ntmps164
 go_wp2_with fail
 have hs := h.on (below_new w (.cells #[.bool true, .slice A n c] 25))
 have b0 := Bx.new w true A n c
 refine (valid_any _ _ _ _ _ xs _ hs (Nat.le_refl _)).mono ?_
 rintro e w1 ⟨rfl, hb1⟩
 have hb := below_chain (below_new w (.cells #[.bool true, .slice A n c] 25)) (by simp) hb1
 have hs1 := hs.on hb1
 have b1 := b0.below hb1 (by simp)
 have k0 := b1.c0
 have k1 := b1.c1
 clear hb1 b0 hs
 go_wp2_with fail
 refine (wordOf_any _ _ _ _ xs _ hs1 hn).mono ?_
 rintro e w2 ⟨rfl, rfl⟩
 generalize val xs = v at *
 go_wp2
 go_ret2
 exact ⟨rfl, hb⟩
theorem small_pos (A : Option Addr) (n c : Nat) (xs : List Nat) (w : World) (h : Sl w w.heap.size A n c xs) (hv : vld false xs = true) (hn : n <= 2) (h1 : (9223372036854775808 : Int) <= (val xs : Int)) :
 Calls Tryz.prog 164 #[.agg #[.bool false, .slice A n c]] w fun e w' => e = .returned (.tuple #[.int .i64 0, .bool false]) /\ Below w.heap.size w w' := by
 have d2 : decide (2 < (n : Int)) = false := by simp; omega
 have hlt : val xs < 18446744073709551616 := by
  have a := val_lt h.ok
  rw [h.len] at a
  exact Nat.lt_of_lt_of_le a (show 4294967296 ^ n <= 4294967296 ^ 2 from Nat.pow_le_pow_right (by decide) hn)
 go_enter Tryz.func164, Tryz.ntmps164
 go_wp2_with fail
 have hs := h.on (below_new w (.cells #[.bool false, .slice A n c] 25))
 have b0 := Bx.new w false A n c
 refine (valid_any _ _ _ _ _ xs _ hs (Nat.le_refl _)).mono ?_
 rintro e w1 ⟨rfl, hb1⟩
 have hb := below_chain (below_new w (.cells #[.bool false, .slice A n c] 25)) (by simp) hb1
 have hs1 := hs.on hb1
 have b1 := b0.below hb1 (by simp)
 have k0 := b1.c0
 have k1 := b1.c1
 clear hb1 b0 hs
 go_wp2_with fail
 refine (wordOf_any _ _ _ _ xs _ hs1 hn).mono ?_
 rintro e w2 ⟨rfl, rfl⟩
 generalize val xs = v at *
 go_wp2
 go_ret2
 exact ⟨rfl, hb⟩
theorem small_ok_neg (A : Option Addr) (n c : Nat) (xs : List Nat) (w : World) (h : Sl w w.heap.size A n c xs) (hv : vld true xs = true) (hn : n <= 2) (z : Int) (hz : val xs = z.natAbs) (h1 : -9223372036854775808 <= z) (h2 : z <= 9223372036854775807) (h3 : z <= 0) :
 Calls Tryz.prog 164 #[.agg #[.bool true, .slice A n c]] w fun e w' => e = .returned (.tuple #[.int .i64 z, .bool true]) /\ Below w.heap.size w w' := by
 have d2 : decide (2 < (n : Int)) = false := by simp; omega
 have Hz := Lib.hid (show ((val xs : Nat) : Int) = -z by omega)
 clear hz
 go_enter Tryz.func164, Tryz.ntmps164
 go_wp2_with fail
 have hs := h.on (below_new w (.cells #[.bool true, .slice A n c] 25))
 have b0 := Bx.new w true A n c
 refine (valid_any _ _ _ _ _ xs _ hs (Nat.le_refl _)).mono ?_
 rintro e w1 ⟨rfl, hb1⟩
 have hb := below_chain (below_new w (.cells #[.bool true, .slice A n c] 25)) (by simp) hb1
 have hs1 := hs.on hb1
 have b1 := b0.below hb1 (by simp)
 have k0 := b1.c0
 have k1 := b1.c1
 clear hb1 b0 hs
 go_wp2_with fail
 refine (wordOf_any _ _ _ _ xs _ hs1 hn).mono ?_
 rintro e w2 ⟨rfl, rfl⟩
 rw [Hz.out]
 go_wp2
 rw [wrap64_u64 z h1 h2]
 go_ret2
 exact ⟨rfl, hb⟩
theorem small_ok_pos (A : Option Addr) (n c : Nat) (xs : List Nat) (w : World) (h : Sl w w.heap.size A n c xs) (hv : vld false xs = true) (hn : n <= 2) (z : Int) (hz : val xs = z.natAbs) (h1 : -9223372036854775808 <= z) (h2 : z <= 9223372036854775807) (h3 : 0 <= z) :
 Calls Tryz.prog 164 #[.agg #[.bool false, .slice A n c]] w fun e w' => e = .returned (.tuple #[.int .i64 z, .bool true]) /\ Below w.heap.size w w' := by
 have d2 : decide (2 < (n : Int)) = false := by simp; omega
 have Hz := Lib.hid (show ((val xs : Nat) : Int) = z by omega)
 clear hz
 go_enter Tryz.func164, Tryz.ntmps164
 go_wp2_with fail
 have hs := h.on (below_new w (.cells #[.bool false, .slice A n c] 25))
 have b0 := Bx.new w false A n c
 refine (valid_any _ _ _ _ _ xs _ hs (Nat.le_refl _)).mono ?_
 rintro e w1 ⟨rfl, hb1⟩
 have hb := below_chain (below_new w (.cells #[.bool false, .slice A n c] 25)) (by simp) hb1
 have hs1 := hs.on hb1
 have b1 := b0.below hb1 (by simp)
 have k0 := b1.c0
 have k1 := b1.c1
 clear hb1 b0 hs
 go_wp2_with fail
 refine (wordOf_any _ _ _ _ xs _ hs1 hn).mono ?_
 rintro e w2 ⟨rfl, rfl⟩
 rw [Hz.out]
 go_wp2
 go_ret2
 exact ⟨rfl, hb⟩
theorem small_ov {neg : Bool} {A : Option Addr} {n c : Nat} {xs : List Nat} {w : World} (h : Sl w w.heap.size A n c xs) :
 Calls Tryz.prog 164 #[.agg #[.bool neg, .slice A n c]] w fun e w' => e = .returned (.tuple #[.int .i64 (smZ (ov neg xs)), .bool (smB (ov neg xs))]) /\ Below w.heap.size w w' := by
 rcases hv : vld neg xs with _ | _
 . rw [ov_none hv]
   exact small_bad neg A n c xs w h hv
 . rw [ov_some hv]
   by_cases hr : -9223372036854775808 <= sg neg (val xs) /\ sg neg (val xs) <= 9223372036854775807
   . have hb : smB (some (sg neg (val xs))) = true := decide_eq_true hr
     rw [smZ, hb, if_pos rfl, Option.getD_some]
     have hlen : n <= 2 := by
      have := length_le (vld_true hv).2.1 (n := 2) (by have e := sg_abs neg (val xs); rw [show (4294967296 : Nat) ^ 2 = 18446744073709551616 by decide]; omega)
      rw [h.len] at this
      exact this
     cases neg
     . exact small_ok_pos A n c xs w h hv hlen _ (sg_abs _ _).symm hr.1 hr.2 (by rw [sg_false]; omega)
     . exact small_ok_neg A n c xs w h hv hlen _ (sg_abs _ _).symm hr.1 hr.2 (by rw [sg_true]; omega)
   . have hb : smB (some (sg neg (val xs))) = false := decide_eq_false hr
     rw [smZ, hb, if_neg (by decide)]
     by_cases hn : 2 < n
     . exact small_long neg A n c xs w h hv hn
     . cases neg
       . exact small_pos A n c xs w h hv (by omega) (by rw [sg_false] at hr; omega)
       . exact small_neg A n c xs w h hv (by omega) (by rw [sg_true] at hr; omega)
end Go.Proofs.YtmncfbfepdbioaaGreatDoor
