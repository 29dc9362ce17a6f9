/-
  Written by mkbase.py: Ref.
-/
import Derived.Test.YtfodjaeknhomkaaBaseA
namespace Go.Proofs.Ytfodjaeknhomkaa
open Go.RowKit
/-- The relation of the reference's addition, one limb on. -/
theorem rplus_rel {w wr : World} {zr xs ys : List Nat} {g k m cy : Nat} (hlt : k < m) (hm : zr.length = m) (Hrow : Hid (Row wr g zr)) (Hok : Hid (Ok zr))
    (Hval : Hid (wv zr 0 k + 4294967296 ^ k * cy = val (xs.take k) + val (ys.take k))) (Hb : Hid (Below g w wr)) (s : Nat) (hs : s = cy + lim xs k + lim ys k) :
    Hid ((zr.set k (s % 4294967296)).length = m) ∧ Hid (Row (wr.setCell ⟨g, k, none⟩ (.int .u32 ((s % 4294967296 : Nat) : Int))) g (zr.set k (s % 4294967296))) ∧ Hid (Ok (zr.set k (s % 4294967296))) ∧
    Hid (wv (zr.set k (s % 4294967296)) 0 (k + 1) + 4294967296 ^ (k + 1) * (s / 4294967296) = val (xs.take (k + 1)) + val (ys.take (k + 1))) ∧
    Hid (Below g w (wr.setCell ⟨g, k, none⟩ (.int .u32 ((s % 4294967296 : Nat) : Int)))) := by
  refine ⟨by rw [Hid, List.length_set, hm], Hrow.out.set _ _, Hok.out.set _ (by omega), ?_, Hb.out.setCell (Nat.le_refl _) _⟩
  have e := wv_set_end (zs := zr) (off := 0) (k := k) (v := s % 4294967296) (by omega)
  rw [Nat.zero_add] at e
  rw [Hid, e, val_take_succ, val_take_succ, Nat.pow_succ]
  exact add_step (P := 4294967296 ^ k) (v := s % 4294967296) (c' := s / 4294967296) (c := cy) (b := lim ys k) (t := lim xs k) (by omega) Hval.out
/-- The end of an addition: what remains of the carry is 0. -/
theorem rplus_end {xs ys zr : List Nat} {n n' m cy : Nat} (hx : Ok xs) (hy : Ok ys) (lx : xs.length = n) (ly : ys.length = n') (h1 : n ≤ m) (h2 : n' ≤ m)
    (hv : wv zr 0 (m + 1) + 4294967296 ^ (m + 1) * cy = val (xs.take (m + 1)) + val (ys.take (m + 1))) : wv zr 0 (m + 1) = val xs + val ys := by
  rw [List.take_of_length_le (by omega), List.take_of_length_le (by omega)] at hv
  have a := val_lt hx
  have b := val_lt hy
  have c : 4294967296 ^ ys.length ≤ 4294967296 ^ m := Nat.pow_le_pow_right (by decide) (by omega)
  have d : 4294967296 ^ xs.length ≤ 4294967296 ^ m := Nat.pow_le_pow_right (by decide) (by omega)
  have e := add_small (Nat.lt_of_lt_of_le a d) (Nat.lt_of_lt_of_le b c)
  rw [← Nat.pow_succ] at e
  exact no_carry hv e
end Go.Proofs.Ytfodjaeknhomkaa
