/-
  Stage 3: values at a rational.
-/
import Derived.Test.YtjbnclfbkccieaaGreatDoorBehind2
import Derived.Test.YtjbnclfbkccieaaGreatDoorPolCe
namespace Go.Proofs.YtjbnclfbkccieaaGreatDoor
section
variable {L : Int} {E N A X K e : Nat} {x y : Rat}
theorem Cd.ups (hK : L.natAbs ≤ K) (h : Cd L E N x) : ∀ j, Cd L (E + j) (N * K ^ j) x
  | 0 => h.mono (by rw [Nat.pow_zero, Nat.mul_one]; exact Nat.le_refl _)
  | j + 1 => ((Cd.ups hK h j).up hK).mono (by rw [Nat.pow_succ, Nat.mul_assoc]; exact Nat.le_refl _)
/-- How great a value may be: at a rational over the e-th power. -/
def wb (A X K e : Nat) : Nat → Nat
  | 0 => 0
  | k + 1 => wb A X K e k * X + wb A X K e k * K ^ e + A * K ^ (e * (k + 1))
theorem wb_up (hK : L.natAbs ≤ K) {n m : Nat} (h : n ≤ m) (hx : Cd L (e * n) (wb A X K e n) x) : Cd L (e * m) (wb A X K e m) x := by
  induction m with
  | zero => exact (Nat.le_zero.1 h) ▸ hx
  | succ m ih =>
    rcases Nat.lt_or_ge n (m + 1) with g | g
    · have := (ih (by omega)).ups hK e
      refine Cd.mono this ?_
      show _ ≤ wb A X K e m * X + wb A X K e m * K ^ e + A * K ^ (e * (m + 1))
      omega
    · have q : n = m + 1 := by omega
      subst q; exact hx
theorem evO_cd (hL : L ≠ 0) (hK : L.natAbs ≤ K) (hK1 : 1 ≤ K) {p : List Rat} (hp : IbL A p) (hy : Cd L e X y) {n : Nat} (hn : p.length ≤ n) (hb : ∀ j, j < n + 1 → wb A X K e j * K ^ (e * j) < BIG ∧ K ^ (e * j) * K ^ (e * j) < BIG) :
    evO p y = .ok (ev p y) ∧ Cd L (e * n) (wb A X K e n) (ev p y) := by
  have key : ∀ k, k ≤ p.length → stepsO (fun i v => thenO (mulO v y) fun t => addO t (coef p (p.length - 1 - i))) 0 k = .ok (ev (p.drop (p.length - k)) y) ∧ Cd L (e * k) (wb A X K e k) (ev (p.drop (p.length - k)) y) := by
    intro k
    induction k with
    | zero =>
      intro _
      rw [Nat.sub_zero, List.drop_length]
      exact ⟨rfl, Cd.zero _ _ _⟩
    | succ k ih =>
      intro hk
      obtain ⟨h1, h2⟩ := ih (Nat.le_of_succ_le hk)
      clear ih
      have hbk := hb (k + 1) (by omega)
      have kp : 1 ≤ K ^ (e * (k + 1)) := Nat.one_le_pow _ _ hK1
      have ee : e * (k + 1) = e * k + e := Nat.mul_succ _ _
      have ew : wb A X K e (k + 1) = wb A X K e k * X + wb A X K e k * K ^ e + A * K ^ (e * (k + 1)) := rfl
      have b1 : wb A X K e (k + 1) ≤ wb A X K e (k + 1) * K ^ (e * (k + 1)) := Nat.le_mul_of_pos_right _ kp
      have b2 : K ^ (e * k) * K ^ e = K ^ (e * (k + 1)) := by rw [ee, Nat.pow_add]
      have b3 : K ^ (e * (k + 1)) ≤ K ^ (e * (k + 1)) * K ^ (e * (k + 1)) := Nat.le_mul_of_pos_right _ kp
      have m1 := mulO_cd hL hK h2 hy (by omega) (by rw [b2]; omega)
      have c1 := h2.mul hy
      rw [← ee] at c1
      have c2 := (Cd.int (L := L) (hp (p.length - 1 - k))).ups hK (e * (k + 1))
      rw [Nat.zero_add] at c2
      have b4 : (wb A X K e k * X + A * K ^ (e * (k + 1))) * K ^ (e * (k + 1)) ≤ wb A X K e (k + 1) * K ^ (e * (k + 1)) := Nat.mul_le_mul_right _ (by omega)
      have a1 := addO_cd hL hK c1 c2 (by omega) hbk.2
      rw [drop_step p (k := k) (by omega)]
      refine ⟨?_, (c1.add c2).mono (by omega)⟩
      rw [stepsO_succ, thenO_ok h1, thenO_ok m1, a1]
      rfl
  obtain ⟨h1, h2⟩ := key p.length (Nat.le_refl _)
  rw [Nat.sub_self, List.drop_zero] at h1 h2
  exact ⟨h1, wb_up hK hn h2⟩
end
/-- The values of the evaluation's law. -/
structure EvV (p q : List Rat) (x : Rat) (k : Int) : Prop where
  kp : Kn p 5 51
  kq : Kn q 5 51
  a : evO p x = .ok (ev p x)
  b : evO q x = .ok (ev q x)
  s : combO addO p q = .ok (padd p q) ∧ Kn (padd p q) 5 102
  t : pmulO p q = .ok (pmul p q) ∧ Kn (pmul p q) 10 13005
  u : compO p q = .ok (pcompose p q) ∧ Kn (pcompose p q) 30 (cb 51 51 5 5)
  v : evO (padd p q) x = .ok (ev p x + ev q x)
  w : evO (pmul p q) x = .ok (ev p x * ev q x)
  y : evO (pcompose p q) x = .ok (ev p (ev q x))
  sum : addO (ev p x) (ev q x) = .ok (ev p x + ev q x)
  prod : mulO (ev p x) (ev q x) = .ok (ev p x * ev q x)
  inner : evO p (ev q x) = .ok (ev p (ev q x))
  d : ∃ a, pdivO p [((-k : Int) : Rat), ((1 : Int) : Rat)] = .ok (a, ptrim [ev p (k : Rat)]) ∧ Tr a ∧ a.length ≤ 65
  val : evO p (k : Rat) = .ok (ev p (k : Rat))
theorem ev_v {p q : List Rat} (kp : Kn p 5 51) (kq : Kn q 5 51) {k d : Int} (hk : k.natAbs ≤ 30) (hd : 0 < d) (hd2 : d ≤ 12) : EvV p q (Rat.divInt k d) k := by
  have hL : d ≠ 0 := by omega
  have hK : d.natAbs ≤ 12 := by omega
  have hx : Cd d 1 30 (Rat.divInt k d) := ⟨k, by rw [Int.pow_one, Rat.divInt_eq_div]; have := cast_int_ne hL; grind, hk⟩
  generalize Rat.divInt k d = x at *
  have a := evO_cd hL hK (by decide) kp.b hx kp.n (by decide +kernel)
  have b := evO_cd hL hK (by decide) kq.b hx kq.n (by decide +kernel)
  have s := kp.add kq (by decide +kernel)
  have t := kp.mul kq (by decide) (by decide +kernel)
  have u := kp.comp kq (by decide) (by decide) (by decide +kernel)
  have v := evO_cd hL hK (by decide) s.2.b hx s.2.n (by decide +kernel)
  have w := evO_cd hL hK (by decide) t.2.b hx t.2.n (by decide +kernel)
  have y := evO_cd hL hK (by decide) u.2.b hx u.2.n (by decide +kernel)
  have sum := addO_cd hL hK a.2 b.2 (by decide +kernel) (by decide +kernel)
  have prod := mulO_cd hL hK a.2 b.2 (by decide +kernel) (by decide +kernel)
  have inner := evO_cd hL hK (by decide) kp.b b.2 kp.n (by decide +kernel)
  have hk2 : Ib 30 (k : Rat) := ⟨k, rfl, hk⟩
  have val := evO_ok kp.b kp.n hk2 (by decide +kernel)
  have eq : [((-k : Int) : Rat), ((1 : Int) : Rat)] = [-(k : Rat), 1] := by rw [Rat.intCast_neg]; rfl
  have tq : ptrim [((-k : Int) : Rat), ((1 : Int) : Rat)] = [((-k : Int) : Rat), ((1 : Int) : Rat)] := trim_iff.2 (Or.inr (by show ((1 : Int) : Rat) ≠ 0; decide))
  have bq : IbL 30 [((-k : Int) : Rat), ((1 : Int) : Rat)] := fun i => by
    match i with
    | 0 => exact ⟨-k, rfl, by omega⟩
    | 1 => exact ⟨1, rfl, by decide⟩
    | i + 2 => rw [coef_succ, coef_succ, coef_nil]; exact Ib.zero _
  have hpn := kp.n
  have dv := pdivO_ok (L := 1) (K := 1) (by decide) (by decide) (by decide) bq rfl (by simp) kp.b (m := 5) (by show p.length - 1 ≤ 5; omega) (by decide +kernel)
  have qt := pdiv_quot_trim kp.t tq (List.cons_ne_nil _ _)
  have ql := pdiv_size p [((-k : Int) : Rat), ((1 : Int) : Rat)]
  have qr : (pdiv p [((-k : Int) : Rat), ((1 : Int) : Rat)]).2 = ptrim [ev p (k : Rat)] := by rw [eq]; exact pdiv_lin (k : Rat)
  exact ⟨kp, kq, a.1, b.1, s, t, u, by rw [v.1, ev_padd], by rw [w.1, ev_pmul], by rw [y.1, ev_compose], sum, prod, inner.1,
    ⟨_, by rw [dv.1, ← qr], Tr.of qt, by rw [ql]; omega⟩, val.1⟩
end Go.Proofs.YtjbnclfbkccieaaGreatDoor
