/-
  Written by mkbase.py: Of, Ref, Small, RefSub, Fit, RefLeft, RefRight, RefBits, RefGcdP.
-/
import Derived.Test.YtfodjaeknhomkaaBaseD
import Derived.Test.YtfodjaeknhomkaaBaseP
import Derived.Laws.BitsAllLaws
import Derived.Deep.DeepCutAuto
namespace Go.Proofs.Ytfodjaeknhomkaa
open Go.RowKit
theorem rwrap_of_neg (n : Int) (h1 : -9223372036854775808 ≤ n) (h2 : n < 0) : IntKind.u64.wrap (-(IntKind.u64.wrap n)) = -n := by
  rw [IntKind.wrap_u64, IntKind.wrap_u64]; omega
end Go.Proofs.Ytfodjaeknhomkaa
namespace Go.Proofs.Ytfodjaeknhomkaa
open Go.RowKit
end Go.Proofs.Ytfodjaeknhomkaa
namespace Go.Proofs.Ytfodjaeknhomkaa
open Go.RowKit
end Go.Proofs.Ytfodjaeknhomkaa
namespace Go.Proofs.Ytfodjaeknhomkaa
open Go.RowKit
theorem rminus_rel {w wr : World} {zr xs ys : List Nat} {g k m cy : Nat} (hlt : k < m) (hm : zr.length = m) (Hrow : Hid (Row wr g zr)) (Hok : Hid (Ok zr))
    (Hval : Hid (wv zr 0 k + val (ys.take k) = val (xs.take k) + 4294967296 ^ k * cy)) (Hb : Hid (Below g w wr)) (v c' : Nat) (hv : v < 4294967296) (hs : v + cy + lim ys k = lim xs k + 4294967296 * c') :
    Hid ((zr.set k v).length = m) ∧ Hid (Row (wr.setCell ⟨g, k, none⟩ (.int .u32 (v : Int))) g (zr.set k v)) ∧ Hid (Ok (zr.set k v)) ∧
    Hid (wv (zr.set k v) 0 (k + 1) + val (ys.take (k + 1)) = val (xs.take (k + 1)) + 4294967296 ^ (k + 1) * c') ∧
    Hid (Below g w (wr.setCell ⟨g, k, none⟩ (.int .u32 (v : Int)))) := by
  refine ⟨by rw [Hid, List.length_set, hm], Hrow.out.set _ _, Hok.out.set _ hv, ?_, Hb.out.setCell (Nat.le_refl _) _⟩
  have e := wv_set_end (zs := zr) (off := 0) (k := k) (v := v) (by omega)
  rw [Nat.zero_add] at e
  rw [Hid, e, val_take_succ, val_take_succ, Nat.pow_succ]
  exact sub_step hs Hval.out
end Go.Proofs.Ytfodjaeknhomkaa
namespace Go.Proofs.Ytfodjaeknhomkaa
open Go.RowKit
end Go.Proofs.Ytfodjaeknhomkaa
namespace Go.Proofs.Ytfodjaeknhomkaa
open Go.RowKit
/-- One limb of a shift to the left, from below. -/
theorem left_rel {w wr : World} {zr xs : List Nat} {g l n t k p : Nat} (hp : p = l + k) (hx : Ok xs) (ht : t < 32) (hk : k < n) (Hlen : Hid (zr.length = l + n + 1)) (Hrw : Hid (Row wr g zr)) (Hok : Hid (Ok zr))
    (Hlow : Hid (∀ i, i < l → lim zr i = 0)) (Hval : Hid (wv zr l (k + 1) = val (xs.take k) * 2 ^ t)) (Htop : Hid (lim zr p < 2 ^ t)) (Hb : Hid (Below g w wr)) (v u : Nat) (hv : v = lim zr p + lim xs k * 2 ^ t % 4294967296) (hu : u = lim xs k * 2 ^ t / 4294967296) :
    Hid (((zr.set p v).set (p + 1) u).length = l + n + 1) ∧ Hid (Row ((wr.setCell ⟨g, p, none⟩ (.int .u32 (v : Int))).setCell ⟨g, p + 1, none⟩ (.int .u32 (u : Int))) g ((zr.set p v).set (p + 1) u)) ∧
    Hid (Ok ((zr.set p v).set (p + 1) u)) ∧ Hid (∀ i, i < l → lim ((zr.set p v).set (p + 1) u) i = 0) ∧ Hid (wv ((zr.set p v).set (p + 1) u) l (k + 1 + 1) = val (xs.take (k + 1)) * 2 ^ t) ∧ Hid (lim ((zr.set p v).set (p + 1) u) (p + 1) < 2 ^ t) ∧
    Hid (Below g w ((wr.setCell ⟨g, p, none⟩ (.int .u32 (v : Int))).setCell ⟨g, p + 1, none⟩ (.int .u32 (u : Int)))) := by
  subst hp
  have hxk := hx.lim k
  have hu2 : u < 2 ^ t := by rw [hu]; exact high_mul hxk
  have hpt : 2 ^ t ≤ 2 ^ 31 := Nat.pow_le_pow_right (by decide) (by omega)
  have hu' : u < 4294967296 := by omega
  have hv' : v < 4294967296 := by
    have b := low_mul (x := lim xs k) (t := t) (by omega)
    have c : lim xs k * 2 ^ t % 4294967296 < 4294967296 := Nat.mod_lt _ (by decide)
    have e : (4294967296 : Nat) = 2 ^ t * 2 ^ (32 - t) := by rw [← Nat.pow_add, show t + (32 - t) = 32 by omega]
    have a := Htop.out
    rw [hv]
    generalize lim xs k * 2 ^ t % 4294967296 = y at *
    generalize lim zr (l + k) = z at *
    have d := Nat.div_add_mod y (2 ^ t)
    rw [b, Nat.add_zero] at d
    have f : y / 2 ^ t < 2 ^ (32 - t) := by
      rw [Nat.div_lt_iff_lt_mul (Nat.pow_pos (by decide)), Nat.mul_comm, ← e]; exact c
    have g1 : 2 ^ t * (y / 2 ^ t + 1) ≤ 2 ^ t * 2 ^ (32 - t) := Nat.mul_le_mul_left _ f
    rw [Nat.mul_add, d, ← e] at g1
    omega
  have l1 : l + k < zr.length := by rw [Hlen.out]; omega
  have l2 : l + k + 1 < (zr.set (l + k) v).length := by rw [List.length_set, Hlen.out]; omega
  refine ⟨by rw [Hid, List.length_set, List.length_set, Hlen.out], (Hrw.out.set _ _).set _ _, (Hok.out.set _ hv').set _ hu', fun i hi => ?_, ?_, ?_, (Hb.out.setCell (Nat.le_refl _) _).setCell (Nat.le_refl _) _⟩
  · rw [lim_set_ne (by omega), lim_set_ne (by omega)]; exact Hlow.out i hi
  · have e1 := wv_set_end (zs := zr.set (l + k) v) (off := l) (k := k + 1) (v := u) (by rw [← Nat.add_assoc]; exact l2)
    have e2 := wv_set_end (zs := zr) (off := l) (k := k) (v := v) l1
    have e3 := wv_succ zr l k
    rw [Nat.add_assoc l k 1]
    rw [Hid, e1, e2, val_take_succ, Nat.add_mul, ← Hval.out, e3, hv, hu, Nat.pow_succ]
    have dm := Nat.div_add_mod (lim xs k * 2 ^ t) 4294967296
    generalize 4294967296 ^ k = P
    rw [show P * lim xs k * 2 ^ t = P * (lim xs k * 2 ^ t) by rw [Nat.mul_assoc], ← dm]
    rw [dm]
    generalize lim xs k * 2 ^ t % 4294967296 = y at *
    generalize lim xs k * 2 ^ t / 4294967296 = z at *
    rw [← dm, Nat.mul_add, Nat.mul_add, ← Nat.mul_assoc P 4294967296 z]
    omega
  · rw [Hid, lim_set_eq l2]; exact hu2
end Go.Proofs.Ytfodjaeknhomkaa
namespace Go.Proofs.Ytfodjaeknhomkaa
open Go.RowKit
/-- Without the zeros at its end. -/
theorem trim_len (xs : List Nat) : ∀ n, n ≤ xs.length → ∃ k, k ≤ n ∧ Nz (xs.take k) ∧ val (xs.take k) = val (xs.take n) := by
  intro n
  induction n with
  | zero => exact fun _ => ⟨0, Nat.le_refl _, by simp [Nz], rfl⟩
  | succ n ih =>
    intro hn
    by_cases h0 : lim xs n = 0
    · obtain ⟨k, h1, h2, h3⟩ := ih (by omega)
      exact ⟨k, by omega, h2, by rw [h3, val_drop_last xs n h0]⟩
    · exact ⟨n + 1, Nat.le_refl _, nz_take (.inr ⟨hn, by simpa using h0⟩), rfl⟩
theorem take_ne0 (xs : List Nat) (k : Nat) : val (xs.take (k + 1)) ≠ 0 ↔ val (xs.take k) ≠ 0 ∨ lim xs k ≠ 0 := by
  rw [val_take_succ]
  have p := pow_pos' k
  constructor
  · intro h
    by_cases h1 : val (xs.take k) = 0
    · right
      intro h2
      rw [h1, h2] at h
      simp at h
    · exact .inl h1
  · rintro (h | h)
    · omega
    · have := Nat.mul_pos p (Nat.pos_of_ne_zero h)
      omega
theorem lost_step_f (xs : List Nat) (k : Nat) (h : ¬ val (xs.take k) ≠ 0) : ((lim xs k : Int) != 0) = decide (val (xs.take (k + 1)) ≠ 0) := by
  have e := take_ne0 xs k
  by_cases h1 : lim xs k = 0
  · rw [decide_eq_false (fun h2 => (e.1 h2).elim h (fun h3 => h3 h1)), h1]; rfl
  · rw [decide_eq_true (e.2 (.inr h1)), bne_iff_ne]; omega
theorem lost_step_t (xs : List Nat) (k : Nat) (h : val (xs.take k) ≠ 0) : true = decide (val (xs.take (k + 1)) ≠ 0) :=
  (decide_eq_true ((take_ne0 xs k).2 (.inl h))).symm
/-- What a shift to the right loses. -/
theorem lost_iff {xs : List Nat} {s l t : Nat} (hx : Ok xs) (hl : l < xs.length) (ht : t < 32) (hs : s = 32 * l + t) : val xs % 2 ^ s ≠ 0 ↔ val (xs.take l) ≠ 0 ∨ lim xs l % 2 ^ t ≠ 0 := by
  have e1 : (2 : Nat) ^ s = 4294967296 ^ l * 2 ^ t := by rw [hs, Nat.pow_add, Nat.pow_mul]
  have hd := val_drop xs l hl
  have hlt := val_lt (hx.take l)
  rw [List.length_take, Nat.min_eq_left (by omega)] at hlt
  have p := pow_pos' l
  have m1 : val xs % 4294967296 ^ l = val (xs.take l) := by
    rw [val_take_drop xs l (by omega), Nat.add_mul_mod_self_left, Nat.mod_eq_of_lt hlt]
  have d1 : val xs / 4294967296 ^ l = val (xs.drop l) := by
    rw [val_take_drop xs l (by omega), Nat.add_mul_div_left _ _ p, Nat.div_eq_of_lt hlt, Nat.zero_add]
  have m2 : val (xs.drop l) % 2 ^ t = lim xs l % 2 ^ t := by
    rw [hd, show (4294967296 : Nat) = 2 ^ t * 2 ^ (32 - t) by rw [← Nat.pow_add, show t + (32 - t) = 32 by omega], Nat.mul_assoc, Nat.add_mul_mod_self_left]
  rw [e1, Nat.mod_mul, m1, d1, m2]
  constructor
  · intro h
    by_cases h1 : val (xs.take l) = 0
    · right
      intro h2
      rw [h1, h2] at h
      simp at h
    · exact .inl h1
  · rintro (h | h)
    · omega
    · have := Nat.mul_pos p (Nat.pos_of_ne_zero h)
      omega
/-- A magnitude and whether something was lost. -/
def RetNumB (N : Nat) (b : Bool) (w : World) (e : Ending) (w' : World) : Prop := ∃ A n c xs, e = .returned (.tuple #[.slice A n c, .bool b]) ∧ Sl w' w'.heap.size A n c xs ∧ Nz xs ∧ val xs = N ∧ Below w.heap.size w w'
theorem fresh_below' (w : World) (o : Obj) : Below w.heap.size w (w.alloc o) := (Below.refl _ _).alloc (Nat.le_refl _) _
theorem right_rel {w wr : World} {zr xs : List Nat} {g k m l t : Nat} (hx : Ok xs) (ht : t ≤ 32) (hkm : k < m) (Hlen : Hid (zr.length = m)) (Hrw : Hid (Row wr g zr)) (Hok : Hid (Ok zr))
    (Hdone : Hid (∀ i, i < k → lim zr i = val (xs.drop l) / 2 ^ t / 4294967296 ^ i % 4294967296)) (Hb : Hid (Below g w wr)) (X : Nat) (hX : X = lim xs (l + k) + 4294967296 * lim xs (l + k + 1)) :
    Hid ((zr.set k (X / 2 ^ t % 4294967296)).length = m) ∧ Hid (Row (wr.setCell ⟨g, k, none⟩ (.int .u32 ((X / 2 ^ t % 4294967296 : Nat) : Int))) g (zr.set k (X / 2 ^ t % 4294967296))) ∧ Hid (Ok (zr.set k (X / 2 ^ t % 4294967296))) ∧
    Hid (∀ i, i < k + 1 → lim (zr.set k (X / 2 ^ t % 4294967296)) i = val (xs.drop l) / 2 ^ t / 4294967296 ^ i % 4294967296) ∧
    Hid (Below g w (wr.setCell ⟨g, k, none⟩ (.int .u32 ((X / 2 ^ t % 4294967296 : Nat) : Int)))) := by
  refine ⟨by rw [Hid, List.length_set, Hlen.out], Hrw.out.set _ _, Hok.out.set _ (Nat.mod_lt _ (by decide)), fun i hi => ?_, Hb.out.setCell (Nat.le_refl _) _⟩
  by_cases hik : i = k
  · subst hik
    rw [lim_set_eq (by rw [Hlen.out]; exact hkm), hX, ← lim_drop, Nat.add_assoc, ← lim_drop, lim_digit (hx.drop l) i, lim_digit (hx.drop l) (i + 1)]
    exact shr_limb _ _ _ ht
  · rw [lim_set_ne (by omega)]; exact Hdone.out i (by omega)
end Go.Proofs.Ytfodjaeknhomkaa
namespace Go.Proofs.Ytfodjaeknhomkaa
open Go.RowKit
theorem bit_limb (a D t : Nat) (ht : t < 32) : (a + 4294967296 * D) / 2 ^ t % 2 = a / 2 ^ t % 2 := by
  have e : 4294967296 * D = 2 ^ t * (2 * (2 ^ (31 - t) * D)) := by
    rw [show (4294967296 : Nat) = 2 ^ t * 2 * 2 ^ (31 - t) by
      rw [← Nat.pow_succ, ← Nat.pow_add, show t + 1 + (31 - t) = 32 by omega]]
    rw [Nat.mul_assoc, Nat.mul_assoc]
  rw [e, Nat.add_mul_div_left _ _ (Nat.pow_pos (by decide)), Nat.add_mul_mod_self_left]
theorem bit_in {xs : List Nat} {i k t : Nat} (hx : Ok xs) (hi : i = 32 * k + t) (ht : t < 32) (hk : k < xs.length) : val xs / 2 ^ i % 2 = lim xs k / 2 ^ t % 2 := by
  have a := val_lt (hx.take k)
  rw [List.length_take, Nat.min_eq_left (Nat.le_of_lt hk)] at a
  have e : val xs = val (xs.take k) + 4294967296 ^ k * val (xs.drop k) := by
    rw [← List.take_append_drop k xs, val_app, List.take_append_drop, List.length_take, Nat.min_eq_left (Nat.le_of_lt hk)]
  rw [hi, Nat.pow_add, ← Nat.div_div_eq_div_mul, show (2 : Nat) ^ (32 * k) = 4294967296 ^ k by rw [Nat.pow_mul], e, Nat.add_mul_div_left _ _ (Nat.pow_pos (by decide)), Nat.div_eq_of_lt a, Nat.zero_add, val_drop xs k hk]
  exact bit_limb _ _ _ ht
theorem bit_out {xs : List Nat} {i k : Nat} (hx : Ok xs) (hi : 32 * k ≤ i) (hk : xs.length ≤ k) : val xs / 2 ^ i % 2 = 0 := by
  have a := val_lt hx
  have b : 4294967296 ^ xs.length ≤ 2 ^ i := by
    rw [show (4294967296 : Nat) = 2 ^ 32 by decide, ← Nat.pow_mul]
    exact Nat.pow_le_pow_right (by decide) (by omega)
  rw [Nat.div_eq_of_lt (Nat.lt_of_lt_of_le a b)]
end Go.Proofs.Ytfodjaeknhomkaa
namespace Go.Proofs.Ytfodjaeknhomkaa
open Go.RowKit
theorem double_step {P W cy b v2 l s : Nat} (hs : s = 2 * l + cy) (h : W + P * cy = 2 * v2 + b) : W + P * (s % 4294967296) + P * 4294967296 * (s / 4294967296) = 2 * (v2 + P * l) + b := by
  have e : P * (s % 4294967296) + P * 4294967296 * (s / 4294967296) = P * s := by rw [Nat.mul_assoc, ← Nat.mul_add, Nat.mod_add_div]
  have f : P * s = 2 * (P * l) + P * cy := by rw [hs, Nat.mul_add, Nat.mul_left_comm]
  generalize P * l = x at *
  generalize P * cy = y at *
  generalize P * s = z at *
  generalize P * (s % 4294967296) = t1 at *
  generalize P * 4294967296 * (s / 4294967296) = t2 at *
  omega
/-- The relation of double, one limb on. -/
theorem double_rel {w wr : World} {zr xs : List Nat} {g k m cy b : Nat} (hlt : k < m) (hm : zr.length = m) (Hrow : Hid (Row wr g zr)) (Hok : Hid (Ok zr))
    (Hval : Hid (wv zr 0 k + 4294967296 ^ k * cy = 2 * val (xs.take k) + b)) (Hb : Hid (Below g w wr)) (s : Nat) (hs : s = 2 * lim xs k + cy) :
    Hid ((zr.set k (s % 4294967296)).length = m) ∧ Hid (Row (wr.setCell ⟨g, k, none⟩ (.int .u32 ((s % 4294967296 : Nat) : Int))) g (zr.set k (s % 4294967296))) ∧ Hid (Ok (zr.set k (s % 4294967296))) ∧
    Hid (wv (zr.set k (s % 4294967296)) 0 (k + 1) + 4294967296 ^ (k + 1) * (s / 4294967296) = 2 * val (xs.take (k + 1)) + b) ∧
    Hid (Below g w (wr.setCell ⟨g, k, none⟩ (.int .u32 ((s % 4294967296 : Nat) : Int)))) := by
  refine ⟨by rw [Hid, List.length_set, hm], Hrow.out.set _ _, Hok.out.set _ (by omega), ?_, Hb.out.setCell (Nat.le_refl _) _⟩
  have e := wv_set_end (zs := zr) (off := 0) (k := k) (v := s % 4294967296) (by omega)
  rw [Nat.zero_add] at e
  rw [Hid, e, val_take_succ, Nat.pow_succ]
  exact double_step hs Hval.out
end Go.Proofs.Ytfodjaeknhomkaa
namespace Go.Proofs.Ytfodjaeknhomkaa
open Go.RowKit
/-- A number is handed back, in the block that the call made first. -/
def RetNumN (N : Nat) (w : World) (e : Ending) (w' : World) : Prop := ∃ n c xs, e = .returned (.slice (some ⟨w.heap.size, 0, none⟩) n c) ∧ Sl w' w'.heap.size (some ⟨w.heap.size, 0, none⟩) n c xs ∧ Nz xs ∧ val xs = N ∧ Below w.heap.size w w'
end Go.Proofs.Ytfodjaeknhomkaa
namespace Go.Proofs.Ytfodjaeknhomkaa
open Go.RowKit
theorem short_step {d Z r l T X : Nat} (hT : T = 4294967296 * r + l) (hX : X = d * Z + r) : l + 4294967296 * X = d * (T / d + 4294967296 * Z) + T % d := by
  have e := Nat.div_add_mod T d
  rw [hX, Nat.mul_add, Nat.mul_add, Nat.mul_left_comm]
  generalize d * Z = a at *
  generalize d * (T / d) = b at *
  omega
theorem short_rel {w wr : World} {zr xs : List Nat} {g i m d r : Nat} (hlt : i < m) (hm : zr.length = m) (hx : xs.length = m) (Hrow : Hid (Row wr g zr)) (Hok : Hid (Ok zr)) (hd : 0 < d) (hr : r < d) (hxo : Ok xs)
    (Hval : Hid (val (xs.drop (i + 1)) = d * val (zr.drop (i + 1)) + r)) (Hb : Hid (Below g w wr)) (T : Nat) (hT : T = 4294967296 * r + lim xs i) :
    Hid ((zr.set i (T / d)).length = m) ∧ Hid (Row (wr.setCell ⟨g, i, none⟩ (.int .u32 ((T / d : Nat) : Int))) g (zr.set i (T / d))) ∧ Hid (Ok (zr.set i (T / d))) ∧
    Hid (val (xs.drop i) = d * val ((zr.set i (T / d)).drop i) + T % d) ∧ Hid (Below g w (wr.setCell ⟨g, i, none⟩ (.int .u32 ((T / d : Nat) : Int)))) := by
  have hq : T / d < 4294967296 := (Nat.div_lt_iff_lt_mul hd).2 (by
    have := hxo.lim i
    have := Nat.mul_le_mul_left 4294967296 (show r + 1 ≤ d from hr)
    omega)
  refine ⟨by rw [Hid, List.length_set, hm], Hrow.out.set _ _, Hok.out.set _ hq, ?_, Hb.out.setCell (Nat.le_refl _) _⟩
  rw [Hid, val_drop xs i (by omega), val_drop _ i (by rw [List.length_set]; omega), lim_set_eq (by omega), List.drop_set_of_lt (by omega)]
  exact short_step hT Hval.out
/-- A number and a limb are handed back. -/
def RetNumL (N r : Nat) (w : World) (e : Ending) (w' : World) : Prop := ∃ A n c xs, e = .returned (.tuple #[.slice A n c, .int .u32 (r : Int)]) ∧ Sl w' w'.heap.size A n c xs ∧ Nz xs ∧ val xs = N ∧ Below w.heap.size w w'
theorem short_q {X d Z r : Nat} (h : X = d * Z + r) (hr : r < d) : Z = X / d ∧ r = X % d := by
  have hd : 0 < d := by omega
  rw [h, Nat.add_comm, Nat.add_mul_div_left _ _ hd, Nat.add_mul_mod_self_left, Nat.div_eq_of_lt hr, Nat.mod_eq_of_lt hr]
  exact ⟨(Nat.zero_add _).symm, rfl⟩
end Go.Proofs.Ytfodjaeknhomkaa
namespace Go.Proofs.Ytfodjaeknhomkaa
open Go.RowKit
theorem tz_bit0 {N k m i : Nat} (hN : N = 2 ^ k * m) (hi : i < k) : N / 2 ^ i % 2 = 0 := by
  obtain ⟨d, rfl⟩ : ∃ d, k = i + (d + 1) := ⟨k - i - 1, by omega⟩
  rw [hN, Nat.pow_add, Nat.mul_assoc, Nat.mul_div_cancel_left _ (Nat.pow_pos (by decide)), Nat.pow_succ, Nat.mul_comm (2 ^ d) 2, Nat.mul_assoc, Nat.mul_mod_right]
theorem tz_bit1 {N k m : Nat} (hN : N = 2 ^ k * m) (hm : m % 2 = 1) : N / 2 ^ k % 2 = 1 := by
  rw [hN, Nat.mul_div_cancel_left _ (Nat.pow_pos (by decide)), hm]
end Go.Proofs.Ytfodjaeknhomkaa
namespace Go.Proofs.Ytfodjaeknhomkaa
open Go.RowKit
theorem tz_of (N : Nat) (h : 0 < N) : ∃ k m : Nat, N = 2 ^ k * m ∧ m % 2 = 1 ∧ k < N := by
  induction N using Nat.strongRecOn with
  | _ N ih =>
    by_cases h2 : N % 2 = 1
    · exact ⟨0, N, by rw [Nat.pow_zero, Nat.one_mul], h2, h⟩
    · obtain ⟨k, m, e, o, l⟩ := ih (N / 2) (by omega) (by omega)
      refine ⟨k + 1, m, ?_, o, by omega⟩
      rw [Nat.pow_succ, Nat.mul_comm (2 ^ k) 2, Nat.mul_assoc, ← e]
      omega
theorem pow_coprime {y : Nat} (k : Nat) (hy : y % 2 = 1) : Nat.Coprime (2 ^ k) y := by
  apply Nat.Coprime.pow_left
  rw [Nat.coprime_iff_gcd_eq_one, Nat.gcd_rec, hy]
  rfl
theorem gcd_tz {k m y : Nat} (hy : y % 2 = 1) : Nat.gcd (2 ^ k * m) y = Nat.gcd m y := Nat.Coprime.gcd_mul_left_cancel m (pow_coprime k hy)
theorem gcd_sub {x y : Nat} (h : y ≤ x) : Nat.gcd (x - y) y = Nat.gcd x y := by
  have e : x = (x - y) + y := by omega
  conv => rhs; rw [e]
  rw [Nat.gcd_add_self_left]
/-- Both numbers lose what factors 2 they have in common. -/
theorem gcd_common {i j x y c : Nat} (hx : x % 2 = 1) (hy : y % 2 = 1) (hc : (i = c ∧ c ≤ j) ∨ (j = c ∧ c ≤ i)) : Nat.gcd (2 ^ i * x) (2 ^ j * y) = Nat.gcd x y * 2 ^ c := by
  rcases hc with ⟨rfl, h⟩ | ⟨rfl, h⟩
  · obtain ⟨d, rfl⟩ : ∃ d, j = i + d := ⟨j - i, by omega⟩
    rw [Nat.pow_add, Nat.mul_assoc, Nat.gcd_mul_left, Nat.gcd_comm x, gcd_tz hx, Nat.gcd_comm y, Nat.mul_comm]
  · obtain ⟨d, rfl⟩ : ∃ d, i = j + d := ⟨i - j, by omega⟩
    rw [Nat.pow_add, Nat.mul_assoc, Nat.gcd_mul_left, gcd_tz hy, Nat.mul_comm]
end Go.Proofs.Ytfodjaeknhomkaa
namespace Go.Proofs.Ytfodjaeknhomkaa
open Go.RowKit
end Go.Proofs.Ytfodjaeknhomkaa
namespace Go.Proofs.Ytfodjaeknhomkaa
open Go.RowKit
theorem tz_bound {k m : Nat} (hm : m % 2 = 1) (h : 2 ^ k * m < BIG) : k ≤ 4096 := by
  rcases Nat.lt_or_ge 4096 k with hk | hk
  · have a : pw 4096 ≤ pw k := pw_le (by omega)
    have b : pw k * 1 ≤ pw k * m := Nat.mul_le_mul_left _ (by omega)
    have c : pw k * m < pw 4096 := by rw [← big_pw]; exact h
    omega
  · exact hk
theorem len_small {w : World} {A : Option Addr} {n c B : Nat} {xs : List Nat} (h : Sl w B A n c xs) (hx : Nz xs) (hb : val xs < BIG) : n ≤ 1000000 := by
  have a := (big_iff h.ok hx).1 hb
  have b := h.len
  omega
theorem gcd_next {X Y k m : Nat} (hY : Y % 2 = 1) (h : Y < X) (e : X - Y = 2 ^ k * m) : Nat.gcd m Y = Nat.gcd X Y := by
  rw [← gcd_tz (k := k) hY, ← e, gcd_sub (by omega)]
theorem odd_le {X Y k m : Nat} (e : X - Y = 2 ^ k * m) : m ≤ X - Y := by
  rw [e]; exact Nat.le_mul_of_pos_left _ (Nat.pow_pos (by decide))
end Go.Proofs.Ytfodjaeknhomkaa
namespace Go.Proofs.Ytfodjaeknhomkaa
open Go.RowKit
end Go.Proofs.Ytfodjaeknhomkaa
namespace Go.Proofs.Ytfodjaeknhomkaa
open Go.RowKit
end Go.Proofs.Ytfodjaeknhomkaa
