/-
  Windows into a list of limbs: their value, and what a store does to it. Plain mathematics.
-/
import Derived.Test.YtalgcppogjpilaaNat
namespace Go.Proofs.Ytalgcppogjpilaa

/-- The value of n limbs from place off on. -/
def wv (zs : List Nat) (off : Nat) : Nat → Nat
  | 0 => 0
  | k + 1 => wv zs off k + 4294967296 ^ k * lim zs (off + k)

theorem wv_zero (zs : List Nat) (off : Nat) : wv zs off 0 = 0 := rfl
theorem wv_succ (zs : List Nat) (off k : Nat) : wv zs off (k + 1) = wv zs off k + 4294967296 ^ k * lim zs (off + k) := rfl
theorem wv_congr {zs zs' : List Nat} {off off' : Nat} {k : Nat} (h : ∀ i, i < k → lim zs' (off' + i) = lim zs (off + i)) : wv zs' off' k = wv zs off k := by
  induction k with
  | zero => rfl
  | succ k ih => rw [wv_succ, wv_succ, ih (fun i hi => h i (by omega)), h k (by omega)]
theorem wv_val (zs : List Nat) (k : Nat) : wv zs 0 k = val (zs.take k) := by
  induction k with
  | zero => simp [wv, val]
  | succ k ih => rw [wv_succ, val_take_succ, ih, Nat.zero_add]
theorem wv_all (zs : List Nat) {k : Nat} (h : zs.length ≤ k) : wv zs 0 k = val zs := by rw [wv_val, List.take_of_length_le h]
theorem lim_drop (zs : List Nat) (off i : Nat) : lim (zs.drop off) i = lim zs (off + i) := by rw [lim_eq, lim_eq, List.getElem?_drop]
theorem lim_take (zs : List Nat) (k i : Nat) (h : i < k) : lim (zs.take k) i = lim zs i := by rw [lim_eq, lim_eq, List.getElem?_take, if_pos h]
theorem wv_drop (zs : List Nat) (off k : Nat) : wv zs off k = val ((zs.drop off).take k) := by
  rw [← wv_val]; exact wv_congr fun i _ => by rw [lim_drop, Nat.zero_add]
theorem wv_add (zs : List Nat) (off k j : Nat) : wv zs off (k + j) = wv zs off k + 4294967296 ^ k * wv zs (off + k) j := by
  induction j with
  | zero => simp [wv]
  | succ j ih => rw [← Nat.add_assoc, wv_succ, ih, wv_succ, Nat.mul_add, Nat.pow_add, Nat.mul_assoc, Nat.add_assoc, Nat.add_assoc]
theorem wv_lt {zs : List Nat} (h : Ok zs) (off k : Nat) : wv zs off k < 4294967296 ^ k := by
  induction k with
  | zero => simp [wv]
  | succ k ih =>
    rw [wv_succ, Nat.pow_succ]
    have a := h.lim (off + k)
    have b : 4294967296 ^ k * lim zs (off + k) + 4294967296 ^ k ≤ 4294967296 ^ k * 4294967296 := by
      rw [← Nat.mul_succ]; exact Nat.mul_le_mul (Nat.le_refl _) a
    omega
theorem lim_set_eq {zs : List Nat} {i v : Nat} (h : i < zs.length) : lim (zs.set i v) i = v := by rw [lim_eq, List.getElem?_set_self h]; rfl
theorem lim_set_ne {zs : List Nat} {i j v : Nat} (h : i ≠ j) : lim (zs.set i v) j = lim zs j := by rw [lim_eq, lim_eq, List.getElem?_set_ne h]
theorem wv_set_past {zs : List Nat} {off k i v : Nat} (h : off + k ≤ i) : wv (zs.set i v) off k = wv zs off k := wv_congr fun _ _ => lim_set_ne (by omega)
theorem wv_set_end {zs : List Nat} {off k v : Nat} (h : off + k < zs.length) : wv (zs.set (off + k) v) off (k + 1) = wv zs off k + 4294967296 ^ k * v := by
  rw [wv_succ, wv_set_past (Nat.le_refl _), lim_set_eq h]

/-- zs' is zs but for the places from lo to hi. -/
def Same (zs zs' : List Nat) (lo hi : Nat) : Prop := zs'.length = zs.length ∧ ∀ i, i < lo ∨ hi ≤ i → lim zs' i = lim zs i
theorem Same.refl (zs : List Nat) (lo hi : Nat) : Same zs zs lo hi := ⟨rfl, fun _ _ => rfl⟩
theorem Same.trans {a b c : List Nat} {lo hi : Nat} (h : Same a b lo hi) (k : Same b c lo hi) : Same a c lo hi := ⟨k.1.trans h.1, fun i hi => (k.2 i hi).trans (h.2 i hi)⟩
theorem Same.mono {a b : List Nat} {lo hi lo' hi' : Nat} (h : Same a b lo hi) (h1 : lo' ≤ lo) (h2 : hi ≤ hi') : Same a b lo' hi' := ⟨h.1, fun i hi => h.2 i (by omega)⟩
theorem Same.set {zs zs' : List Nat} {lo hi i : Nat} (h : Same zs zs' lo hi) (h1 : lo ≤ i) (h2 : i < hi) (v : Nat) : Same zs (zs'.set i v) lo hi :=
  ⟨by rw [List.length_set]; exact h.1, fun j hj => by rw [lim_set_ne (by omega)]; exact h.2 j hj⟩
/-- One store behind k others. -/
theorem Same.snoc {zs zs' : List Nat} {lo k : Nat} (h : Same zs zs' lo (lo + k)) (v : Nat) : Same zs (zs'.set (lo + k) v) lo (lo + (k + 1)) :=
  (h.mono (Nat.le_refl _) (by omega)).set (by omega) (by omega) v
theorem Same.wv_past {zs zs' : List Nat} {lo hi : Nat} (h : Same zs zs' lo hi) {off k : Nat} (hk : off + k ≤ lo ∨ hi ≤ off) : wv zs' off k = wv zs off k :=
  wv_congr fun i hi => h.2 _ (by omega)

/-- The step of an addition with carry. -/
theorem add_step {P S T U c b t v c' : Nat} (hv : v + 4294967296 * c' = c + b + t) (h : S + P * c = T + U) : S + P * v + P * 4294967296 * c' = (T + P * t) + (U + P * b) := by
  have e : P * v + P * (4294967296 * c') = P * c + P * b + P * t := by rw [← Nat.mul_add, hv, Nat.mul_add, Nat.mul_add]
  rw [Nat.mul_assoc]; omega
/-- The step of a subtraction with borrow. -/
theorem sub_step {P S T U c b t v c' : Nat} (hv : v + c + b = t + 4294967296 * c') (h : S + U = T + P * c) : S + P * v + (U + P * b) = (T + P * t) + P * 4294967296 * c' := by
  have e : P * v + P * c + P * b = P * t + P * (4294967296 * c') := by rw [← Nat.mul_add, ← Nat.mul_add, hv, Nat.mul_add]
  rw [Nat.mul_assoc]; omega

/-- Go's comparison of two magnitudes. -/
def cmpv (a b : Nat) : Int := if a < b then -1 else if a = b then 0 else 1
theorem cmpv_lt {a b : Nat} (h : a < b) : cmpv a b = -1 := if_pos h
theorem cmpv_eq (a : Nat) : cmpv a a = 0 := by rw [cmpv, if_neg (Nat.lt_irrefl _), if_pos rfl]
theorem cmpv_gt {a b : Nat} (h : b < a) : cmpv a b = 1 := by rw [cmpv, if_neg (by omega), if_neg (by omega)]
/-- Two numbers of one length whose limbs above place j are equal compare as their limbs j do. -/
theorem lt_of_limb {xs ys : List Nat} (hx : Ok xs) {j : Nat} (h1 : j < xs.length) (h2 : j < ys.length) (hd : val (xs.drop (j + 1)) = val (ys.drop (j + 1))) (hl : lim xs j < lim ys j) : val xs < val ys := by
  rw [val_take_drop xs j (by omega), val_take_drop ys j (by omega), val_drop xs j h1, val_drop ys j h2, hd]
  have a := val_lt (hx.take j)
  rw [List.length_take, Nat.min_eq_left (by omega)] at a
  have b : 4294967296 ^ j * (lim xs j + 4294967296 * val (ys.drop (j + 1))) + 4294967296 ^ j ≤ 4294967296 ^ j * (lim ys j + 4294967296 * val (ys.drop (j + 1))) := by
    rw [← Nat.mul_succ]; exact Nat.mul_le_mul (Nat.le_refl _) (by omega)
  omega
theorem drop_eq_step {xs ys : List Nat} {j : Nat} (h1 : j < xs.length) (h2 : j < ys.length) (hd : val (xs.drop (j + 1)) = val (ys.drop (j + 1))) (hl : lim xs j = lim ys j) : val (xs.drop j) = val (ys.drop j) := by
  rw [val_drop xs j h1, val_drop ys j h2, hd, hl]

end Go.Proofs.Ytalgcppogjpilaa
