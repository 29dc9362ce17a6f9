/-
  Written by mkbase.py: Bits, RefAdd, RefNeg, RefSubs, RefTimes, RefMul, RefQuotP.
-/
import Derived.Test.YtfodjaeknhomkaaBaseF
import Derived.Deep.DeepCutAuto
import Derived.StillTailTactics
import Derived.RegionTactic
import Derived.ChangeAlike
import Derived.IntWalk
namespace Go.Proofs.Ytfodjaeknhomkaa
open Go.RowKit
end Go.Proofs.Ytfodjaeknhomkaa
namespace Go.Proofs.Ytfodjaeknhomkaa
open Go.RowKit
end Go.Proofs.Ytfodjaeknhomkaa
namespace Go.Proofs.Ytfodjaeknhomkaa
open Go.RowKit
end Go.Proofs.Ytfodjaeknhomkaa
namespace Go.Proofs.Ytfodjaeknhomkaa
open Go.RowKit
/-- The opposite of a valid integer is valid. -/
theorem vld_opp {neg : Bool} {xs ys : List Nat} (h : vld neg xs = true) (hy : Ok ys) (ny : Nz ys) (e : val ys = (-sg neg (val xs)).natAbs) (hx : Ok xs) : vld (decide (-sg neg (val xs) < 0)) ys = true := by
  have hl := vld_true h
  have hv : val ys = val xs := by rw [e, Int.natAbs_neg, sg_abs]
  refine vld_of hy ny ?_ ?_
  · rw [hv]; exact (big_iff hx hl.2.1).2 hl.1
  · intro hd
    have hd' : -sg neg (val xs) < 0 := of_decide_eq_true hd
    rw [e]; omega
end Go.Proofs.Ytfodjaeknhomkaa
namespace Go.Proofs.Ytfodjaeknhomkaa
open Go.RowKit
theorem timesr_rel {w wr : World} {zs zr ys : List Nat} {g off k cy f : Nat} (hlt : off + k < zr.length) (Hrow : Hid (Row wr g zr)) (Hok : Hid (Ok zr)) (Hsame : Hid (Same zs zr off (off + k)))
    (Hval : Hid (wv zr off k + 4294967296 ^ k * cy = wv zs off k + val (ys.take k) * f)) (Hb : Hid (Below g w wr)) (s : Nat) (hs : s = f * lim ys k + lim zr (off + k) + cy) :
    Hid (Row (wr.setCell ⟨g, off + k, none⟩ (.int .u32 ((s % 4294967296 : Nat) : Int))) g (zr.set (off + k) (s % 4294967296))) ∧ Hid (Ok (zr.set (off + k) (s % 4294967296))) ∧
    Hid (Same zs (zr.set (off + k) (s % 4294967296)) off (off + (k + 1))) ∧
    Hid (wv (zr.set (off + k) (s % 4294967296)) off (k + 1) + 4294967296 ^ (k + 1) * (s / 4294967296) = wv zs off (k + 1) + val (ys.take (k + 1)) * f) ∧
    Hid (Below g w (wr.setCell ⟨g, off + k, none⟩ (.int .u32 ((s % 4294967296 : Nat) : Int)))) := by
  refine ⟨Hrow.out.set _ _, Hok.out.set _ (by omega), Hsame.out.snoc _, ?_, Hb.out.setCell (Nat.le_refl _) _⟩
  rw [Hid, wv_set_end hlt, wv_succ, val_take_succ, Nat.pow_succ, Nat.add_mul, Nat.mul_assoc (4294967296 ^ k) (lim ys k) f, Nat.mul_comm (lim ys k) f]
  have e := Hsame.out.2 (off + k) (.inr (Nat.le_refl _))
  exact add_step (b := f * lim ys k) (by rw [hs, e]; generalize f * lim ys k = p; omega) Hval.out
theorem hid_drewN' {w : World} {g i : Nat} {v : Value} {zs' : List Nat} {P Q R : Prop} {wr : World}
    (h : Hid (Row (wr.setCell ⟨g, i, none⟩ v) g zs') ∧ P ∧ Q ∧ R ∧ Hid (Below g w (wr.setCell ⟨g, i, none⟩ v))) (n : Nat) :
    Hid (Row ((wr.drewN n).setCell ⟨g, i, none⟩ v) g zs') ∧ P ∧ Q ∧ R ∧ Hid (Below g w ((wr.drewN n).setCell ⟨g, i, none⟩ v)) :=
  ⟨h.1.out, h.2.1, h.2.2.1, h.2.2.2.1, below_drewN h.2.2.2.2.out n⟩
end Go.Proofs.Ytfodjaeknhomkaa
namespace Go.Proofs.Ytfodjaeknhomkaa
open Go.RowKit
end Go.Proofs.Ytfodjaeknhomkaa
namespace Go.Proofs.Ytfodjaeknhomkaa
open Go.RowKit
/-- One digit more. -/
theorem div_step {N D j b R : Nat} (hD : 0 < D) (hb : N / 2 ^ j % 2 = b) (hR : N / 2 ^ (j + 1) % D = R) :
    (2 * R + b < D → N / 2 ^ j / D * 2 ^ j = N / 2 ^ (j + 1) / D * 2 ^ (j + 1) ∧ N / 2 ^ j % D = 2 * R + b) ∧
    (D ≤ 2 * R + b → N / 2 ^ j / D * 2 ^ j = N / 2 ^ (j + 1) / D * 2 ^ (j + 1) + 2 ^ j ∧ N / 2 ^ j % D = 2 * R + b - D) := by
  have e : N / 2 ^ (j + 1) = N / 2 ^ j / 2 := by rw [Nat.pow_succ, Nat.div_div_eq_div_mul]
  rw [e] at hR ⊢
  generalize N / 2 ^ j = M at *
  have e2 := Nat.div_add_mod (M / 2) D
  have hm := Nat.mod_lt (M / 2) hD
  rw [hR] at e2 hm
  have em : M = 2 * (M / 2) + b := by omega
  generalize M / 2 = H at *
  generalize H / D = Q at *
  have key : M = D * (2 * Q) + (2 * R + b) := by
    rw [Nat.mul_left_comm, em, ← e2]; omega
  rw [Nat.pow_succ]
  constructor
  · intro h
    have k1 : M / D = 2 * Q := by rw [key, Nat.mul_add_div hD, Nat.div_eq_of_lt h, Nat.add_zero]
    have k2 : M % D = 2 * R + b := by rw [key, Nat.mul_add_mod, Nat.mod_eq_of_lt h]
    exact ⟨by rw [k1, Nat.mul_comm 2 Q, Nat.mul_assoc, Nat.mul_comm 2], k2⟩
  · intro h
    have key2 : M = D * (2 * Q + 1) + (2 * R + b - D) := by rw [Nat.mul_add, Nat.mul_one]; omega
    have hl : 2 * R + b - D < D := by omega
    have k1 : M / D = 2 * Q + 1 := by rw [key2, Nat.mul_add_div hD, Nat.div_eq_of_lt hl, Nat.add_zero]
    have k2 : M % D = 2 * R + b - D := by rw [key2, Nat.mul_add_mod, Nat.mod_eq_of_lt hl]
    exact ⟨by rw [k1, Nat.add_mul, Nat.one_mul, Nat.mul_comm 2 Q, Nat.mul_assoc, Nat.mul_comm 2], k2⟩
/-- A digit is set where none stands. -/
theorem val_set_bit {zs : List Nat} {l t j Q : Nat} (hz : Ok zs) (hj : j = 32 * l + t) (ht : t < 32) (hl : l < zs.length) (hv : val zs = Q * 2 ^ (j + 1)) :
    lim zs l + 2 ^ t < 4294967296 ∧ val (zs.set l (lim zs l + 2 ^ t)) = val zs + 2 ^ j := by
  have e : (4294967296 : Nat) ^ l = 2 ^ (32 * l) := by rw [show (4294967296 : Nat) = 2 ^ 32 by decide, ← Nat.pow_mul]
  constructor
  · have d := lim_digit hz l
    rw [hv, hj, e, show 32 * l + t + 1 = (t + 1) + 32 * l by omega, Nat.pow_add, ← Nat.mul_assoc, Nat.mul_div_cancel _ (Nat.pow_pos (by decide))] at d
    have h1 : (2 : Nat) ^ (t + 1) ∣ 4294967296 := ⟨2 ^ (31 - t), by rw [← Nat.pow_add, show t + 1 + (31 - t) = 32 by omega]⟩
    have h2 : (2 : Nat) ^ (t + 1) ∣ lim zs l := by
      rw [d]; exact (Nat.dvd_mod_iff h1).2 (Nat.dvd_mul_left _ _)
    have h3 := hz.lim l
    obtain ⟨u, hu⟩ := h1
    obtain ⟨v, hv'⟩ := h2
    rw [hv'] at h3 ⊢
    rw [hu] at h3 ⊢
    have h4 : v < u := Nat.lt_of_mul_lt_mul_left h3
    have h5 : 2 ^ (t + 1) * (v + 1) ≤ 2 ^ (t + 1) * u := Nat.mul_le_mul_left _ h4
    have h6 : (2 : Nat) ^ t < 2 ^ (t + 1) := Nat.pow_lt_pow_right (by decide) (by omega)
    rw [Nat.mul_add, Nat.mul_one] at h5
    omega
  · have a := val_split zs l 1 (zs.length - l - 1) (by omega)
    have b := val_split (zs.set l (lim zs l + 2 ^ t)) l 1 (zs.length - l - 1) (by rw [List.length_set]; omega)
    have e1 : wv (zs.set l (lim zs l + 2 ^ t)) 0 l = wv zs 0 l := wv_set_past (by omega)
    have e2 : wv (zs.set l (lim zs l + 2 ^ t)) l 1 = lim zs l + 2 ^ t := by simp only [wv, Nat.pow_zero, Nat.one_mul, Nat.zero_add, Nat.add_zero]; exact lim_set_eq hl
    have e3 : wv (zs.set l (lim zs l + 2 ^ t)) (l + 1) (zs.length - l - 1) = wv zs (l + 1) (zs.length - l - 1) := wv_congr fun i _ => lim_set_ne (by omega)
    have e4 : wv zs l 1 = lim zs l := by simp only [wv, Nat.pow_zero, Nat.one_mul, Nat.zero_add, Nat.add_zero]
    rw [b, a, e1, e2, e3, e4, hj, Nat.pow_add, ← e]
    generalize 4294967296 ^ l = P
    generalize wv zs (l + 1) (zs.length - l - 1) = H
    grind
/-- A slice in another block than the one that is written reads as before. -/
theorem Sl.apart {w : World} {B n c : Nat} {A : Option Addr} {xs : List Nat} (h : Sl w B A n c xs) {p : Addr} (hp : ∀ ad, A = some ad → ad.block ≠ p.block) (u : Value) : Sl (w.setCell p u) B A n c xs := by
  refine ⟨h.cap, h.reach, h.capr, h.nil_, ⟨h.reads.1, fun hn => ?_⟩, h.ok⟩
  obtain ⟨ad, e, hb, hc⟩ := h.reads.2 hn
  refine ⟨ad, e, hb, fun j v hj => ?_⟩
  rw [World.cell?_setCell_other w p _ u (fun e' => hp ad e (by rw [← block_of_add ad (j * 1), Nat.mul_one, ← e']))]
  exact hc j v hj
/-- What stands when J digits are still to come. -/
structure Dv (w wr : World) (g n D N J : Nat) (A : Option Addr) (nr cr : Nat) (rs zr : List Nat) : Prop where
  lz : zr.length = n
  rz : Row wr g zr
  oz : Ok zr
  q : val zr = N / 2 ^ J / D * 2 ^ J
  sr : Sl wr wr.heap.size A nr cr rs
  nr' : Nz rs
  r : val rs = N / 2 ^ J % D
  ap : ∀ ad, A = some ad → ad.block ≠ g
  be : Below w.heap.size w wr
end Go.Proofs.Ytfodjaeknhomkaa
namespace Go.Proofs.Ytfodjaeknhomkaa
open Go.RowKit
/-- One limb, 1, made anew. -/
theorem sl_one (w : World) : Sl (w.alloc (.cells #[.int .u32 1] 69)) (w.alloc (.cells #[.int .u32 1] 69)).heap.size (some ⟨w.heap.size, 0, none⟩) 1 1 [1] :=
  Row.sl (w := w.alloc (.cells #[.int .u32 1] 69)) (zs := [1]) (Blk.new w 69 _) (show w.heap.size < (w.alloc (.cells #[.int .u32 1] 69)).heap.size by simp) 0 (Nat.le_refl _) (Nat.le_refl _) (by decide) (by unfold Ok; decide)
end Go.Proofs.Ytfodjaeknhomkaa
namespace Go.Proofs.Ytfodjaeknhomkaa
open Go.RowKit
end Go.Proofs.Ytfodjaeknhomkaa
