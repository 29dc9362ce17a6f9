/-
  Stage 3: rationals over a power of one integer: how great they are, and that the program's operations on them make no error.
-/
import Derived.Test.YtjbnclfbkccieaaGreatDoorBehind2
import Derived.Test.YtjbnclfbkccieaaGreatDoorPolBi
import Derived.Test.YtjbnclfbkccieaaGreatDoorPolN
namespace Go.Proofs.YtjbnclfbkccieaaGreatDoor
/-- A rational over the power E of L. -/
def Cd (L : Int) (E N : Nat) (x : Rat) : Prop := ∃ z : Int, x * ((L ^ E : Int) : Rat) = (z : Rat) ∧ z.natAbs ≤ N
section
variable {L : Int} {E F N M : Nat} {x y : Rat}
theorem lpow_ne (hL : L ≠ 0) (E : Nat) : L ^ E ≠ 0 := Int.pow_ne_zero hL
theorem cast_int_ne {z : Int} (h : z ≠ 0) : (z : Rat) ≠ 0 := by
  intro e
  have := congrArg Rat.num e
  rw [Rat.num_intCast] at this
  exact h this
theorem cd_div (hL : L ≠ 0) {z : Int} (h : x * ((L ^ E : Int) : Rat) = (z : Rat)) : x = Rat.divInt z (L ^ E) := by
  have hp := cast_int_ne (lpow_ne hL E)
  rw [Rat.divInt_eq_div, ← h]
  grind
theorem Cd.small (hL : L ≠ 0) (h : Cd L E N x) : x.num.natAbs ≤ N ∧ x.den ≤ L.natAbs ^ E := by
  obtain ⟨z, e, hz⟩ := h
  rw [cd_div hL e]
  have := divInt_le z (L ^ E) (lpow_ne hL E)
  rw [Int.natAbs_pow] at this
  exact ⟨Nat.le_trans this.1 hz, this.2⟩
theorem Cd.zero (L : Int) (E N : Nat) : Cd L E N 0 := ⟨0, by grind, Nat.zero_le _⟩
theorem Cd.mono (h : Cd L E N x) (k : N ≤ M) : Cd L E M x := by obtain ⟨z, e, hz⟩ := h; exact ⟨z, e, Nat.le_trans hz k⟩
theorem Cd.int (h : Ib N x) : Cd L 0 N x := by
  obtain ⟨z, rfl, hz⟩ := h
  exact ⟨z, by rw [Int.pow_zero]; grind, hz⟩
theorem Cd.add (h : Cd L E N x) (k : Cd L E M y) : Cd L E (N + M) (x + y) := by
  obtain ⟨z, e, hz⟩ := h
  obtain ⟨u, f, hu⟩ := k
  exact ⟨z + u, by rw [Rat.intCast_add, ← e, ← f]; grind, by omega⟩
theorem Cd.sub (h : Cd L E N x) (k : Cd L E M y) : Cd L E (N + M) (x - y) := by
  obtain ⟨z, e, hz⟩ := h
  obtain ⟨u, f, hu⟩ := k
  exact ⟨z - u, by rw [Rat.intCast_sub, ← e, ← f]; grind, by omega⟩
theorem Cd.mul (h : Cd L E N x) (k : Cd L F M y) : Cd L (E + F) (N * M) (x * y) := by
  obtain ⟨z, e, hz⟩ := h
  obtain ⟨u, f, hu⟩ := k
  exact ⟨z * u, by rw [Rat.intCast_mul, ← e, ← f, Int.pow_add, Rat.intCast_mul]; grind, by rw [Int.natAbs_mul]; exact Nat.mul_le_mul hz hu⟩
theorem Cd.up (h : Cd L E N x) {K : Nat} (hK : L.natAbs ≤ K) : Cd L (E + 1) (N * K) x := by
  obtain ⟨z, e, hz⟩ := h
  exact ⟨z * L, by rw [Rat.intCast_mul, ← e, Int.pow_succ, Rat.intCast_mul]; grind, by rw [Int.natAbs_mul]; exact Nat.mul_le_mul hz hK⟩
theorem Cd.div (hL : L ≠ 0) (h : Cd L E N x) : Cd L (E + 1) N (x / (L : Rat)) := by
  obtain ⟨z, e, hz⟩ := h
  have := cast_int_ne hL
  exact ⟨z, by rw [← e, Int.pow_succ, Rat.intCast_mul]; grind, hz⟩
theorem addO_cd (hL : L ≠ 0) {K : Nat} (hK : L.natAbs ≤ K) (h : Cd L E N x) (k : Cd L E M y) (hb : (N + M) * K ^ E < BIG) (hb2 : K ^ E * K ^ E < BIG) : addO x y = .ok (x + y) := by
  have h1 := h.small hL
  have k1 := k.small hL
  have hp : L.natAbs ^ E ≤ K ^ E := Nat.pow_le_pow_left hK E
  have a1 : (x.num * (y.den : Int)).natAbs ≤ N * K ^ E := by rw [Int.natAbs_mul, Int.natAbs_natCast]; exact Nat.mul_le_mul h1.1 (Nat.le_trans k1.2 hp)
  have a2 : (y.num * (x.den : Int)).natAbs ≤ M * K ^ E := by rw [Int.natAbs_mul, Int.natAbs_natCast]; exact Nat.mul_le_mul k1.1 (Nat.le_trans h1.2 hp)
  have a3 : ((x.den : Int) * (y.den : Int)).natAbs ≤ K ^ E * K ^ E := by rw [Int.natAbs_mul, Int.natAbs_natCast, Int.natAbs_natCast]; exact Nat.mul_le_mul (Nat.le_trans h1.2 hp) (Nat.le_trans k1.2 hp)
  have e : (N + M) * K ^ E = N * K ^ E + M * K ^ E := Nat.add_mul ..
  unfold addO
  rw [if_pos]
  rw [fz_of a1 (by omega), fz_of a2 (by omega), fz_of (B := (N + M) * K ^ E) (by omega) hb, fz_of a3 hb2]
  rfl
theorem subO_cd (hL : L ≠ 0) {K : Nat} (hK : L.natAbs ≤ K) (h : Cd L E N x) (k : Cd L E M y) (hb : (N + M) * K ^ E < BIG) (hb2 : K ^ E * K ^ E < BIG) : subO x y = .ok (x - y) := by
  have h1 := h.small hL
  have k1 := k.small hL
  have hp : L.natAbs ^ E ≤ K ^ E := Nat.pow_le_pow_left hK E
  have a1 : (x.num * (y.den : Int)).natAbs ≤ N * K ^ E := by rw [Int.natAbs_mul, Int.natAbs_natCast]; exact Nat.mul_le_mul h1.1 (Nat.le_trans k1.2 hp)
  have a2 : (y.num * (x.den : Int)).natAbs ≤ M * K ^ E := by rw [Int.natAbs_mul, Int.natAbs_natCast]; exact Nat.mul_le_mul k1.1 (Nat.le_trans h1.2 hp)
  have a3 : ((x.den : Int) * (y.den : Int)).natAbs ≤ K ^ E * K ^ E := by rw [Int.natAbs_mul, Int.natAbs_natCast, Int.natAbs_natCast]; exact Nat.mul_le_mul (Nat.le_trans h1.2 hp) (Nat.le_trans k1.2 hp)
  have e : (N + M) * K ^ E = N * K ^ E + M * K ^ E := Nat.add_mul ..
  unfold subO
  rw [if_pos]
  rw [fz_of a1 (by omega), fz_of a2 (by omega), fz_of (B := (N + M) * K ^ E) (by omega) hb, fz_of a3 hb2]
  rfl
theorem mulO_cd (hL : L ≠ 0) {K : Nat} (hK : L.natAbs ≤ K) (h : Cd L E N x) (k : Cd L F M y) (hb : N * M < BIG) (hb2 : K ^ E * K ^ F < BIG) : mulO x y = .ok (x * y) := by
  have h1 := h.small hL
  have k1 := k.small hL
  have hp : L.natAbs ^ E ≤ K ^ E := Nat.pow_le_pow_left hK E
  have hq : L.natAbs ^ F ≤ K ^ F := Nat.pow_le_pow_left hK F
  unfold mulO
  rw [if_pos]
  rw [fz_of (B := N * M) (by rw [Int.natAbs_mul]; exact Nat.mul_le_mul h1.1 k1.1) hb, fz_of (B := K ^ E * K ^ F) (by rw [Int.natAbs_mul, Int.natAbs_natCast, Int.natAbs_natCast]; exact Nat.mul_le_mul (Nat.le_trans h1.2 hp) (Nat.le_trans k1.2 hq)) hb2]
  rfl
theorem divO_cd (hL : L ≠ 0) {K : Nat} (hK : L.natAbs ≤ K) (h : Cd L E N x) (hb : N < BIG) (hb2 : K ^ E * K < BIG) : divO x (L : Rat) = .ok (x / (L : Rat)) := by
  have h1 := h.small hL
  have hp : L.natAbs ^ E ≤ K ^ E := Nat.pow_le_pow_left hK E
  unfold divO
  rw [if_pos]
  rw [Rat.num_intCast, Rat.den_intCast]
  rw [fz_of (B := N) (by rw [Int.natAbs_mul]; have := h1.1; simpa using this) hb, fz_of (B := K ^ E * K) (by rw [Int.natAbs_mul, Int.natAbs_natCast]; exact Nat.mul_le_mul (Nat.le_trans h1.2 hp) hK) hb2]
  rfl
end
/-- One row of the division, without an error. -/
def rowV (q rest : List Rat) (c : Rat) (k i : Nat) : List Rat := (List.range rest.length).map fun j => if k ≤ j ∧ j < k + i then coef rest j - c * coef q (j - k) else coef rest j
theorem map_coef (l : List Rat) : (List.range l.length).map (coef l) = l := by
  refine List.ext_getElem (by rw [List.length_map, List.length_range]) fun i h1 h2 => ?_
  rw [List.getElem_map, List.getElem_range]
  unfold coef
  rw [List.getD_eq_getElem?_getD, List.getElem?_eq_getElem h2]
  rfl
theorem rowV_zero (q rest : List Rat) (c : Rat) (k : Nat) : rowV q rest c k 0 = rest := by
  unfold rowV
  conv => rhs; rw [← map_coef rest]
  refine List.map_congr_left fun j _ => ?_
  rw [if_neg (by omega)]
theorem rowV_succ (q rest : List Rat) (c : Rat) (k i : Nat) : (rowV q rest c k i).set (k + i) (coef rest (k + i) - c * coef q i) = rowV q rest c k (i + 1) := by
  unfold rowV
  refine List.ext_getElem (by simp) fun j h1 h2 => ?_
  rw [List.getElem_set]
  by_cases h : k + i = j
  · subst h
    rw [if_pos rfl, List.getElem_map, List.getElem_range, if_pos (by omega), show k + i - k = i by omega]
  · rw [if_neg h, List.getElem_map, List.getElem_range, List.getElem_map, List.getElem_range]
    by_cases g : k ≤ j ∧ j < k + i
    · rw [if_pos g, if_pos (by omega)]
    · rw [if_neg g, if_neg (by omega)]
theorem rowV_coef (q rest : List Rat) (c : Rat) (k i j : Nat) (h : j < rest.length) (hj : ¬ (k ≤ j ∧ j < k + i)) : coef (rowV q rest c k i) j = coef rest j := by
  unfold rowV
  rw [coef_map_range, if_pos h, if_neg hj]
def nbd (A B K : Nat) : Nat → Nat
  | 0 => A
  | j + 1 => nbd A B K j * K + nbd A B K j * B
section
variable {L : Int} {A B K : Nat} {q : List Rat}
theorem row_ok (hL : L ≠ 0) (hK : L.natAbs ≤ K) (hq : IbL B q) (hl : coef q (q.length - 1) = (L : Rat)) {E N k : Nat} {s : List Rat × List Rat} (hk : k + (q.length - 1) < s.2.length)
    (h1 : ∀ i, Cd L E N (coef s.1 i)) (h2 : ∀ i, Cd L E N (coef s.2 i)) (hK1 : 1 ≤ K) (hb : (N * K + N * B) * K ^ (E + 1) < BIG) (hb2 : K ^ (E + 1) * K ^ (E + 1) < BIG) :
    rowO q k s = .ok ((pstep q k s.2).1 :: s.1, (pstep q k s.2).2) ∧ (∀ i, Cd L (E + 1) (N * K + N * B) (coef ((pstep q k s.2).1 :: s.1) i)) ∧ (∀ i, Cd L (E + 1) (N * K + N * B) (coef (pstep q k s.2).2 i)) ∧ (pstep q k s.2).2.length = s.2.length := by
  have kp : 1 ≤ K ^ (E + 1) := Nat.one_le_pow _ _ hK1
  have b0 : N * K + N * B < BIG := Nat.lt_of_le_of_lt (Nat.le_mul_of_pos_right _ kp) hb
  have b1 : N ≤ N * K := Nat.le_mul_of_pos_right _ hK1
  have b2 : K ^ E * K = K ^ (E + 1) := rfl
  have b3 : K ^ (E + 1) < BIG := Nat.lt_of_le_of_lt (Nat.le_mul_of_pos_right _ kp) hb2
  have dc := divO_cd hL hK (h2 (k + (q.length - 1))) (by omega) (by rw [b2]; exact b3)
  have hc := (h2 (k + (q.length - 1))).div hL
  generalize hcc : coef s.2 (k + (q.length - 1)) / (L : Rat) = c at dc hc
  have hcq : ∀ i, Cd L (E + 1) (N * B) (c * coef q i) := fun i => by
    have := hc.mul (Cd.int (L := L) (hq i))
    rwa [Nat.add_zero] at this
  have steps : ∀ i, i ≤ q.length - 1 → stepsO (restO q c k) s.2 i = .ok (rowV q s.2 c k i) := by
    intro i
    induction i with
    | zero => intro _; rw [rowV_zero]; rfl
    | succ i ih =>
      intro hi
      rw [stepsO_succ, thenO_ok (ih (by omega))]
      unfold restO
      have m1 := mulO_cd hL hK hc (Cd.int (L := L) (hq i)) (by omega) (by rw [Nat.pow_zero, Nat.mul_one]; exact b3)
      rw [thenO_ok m1, rowV_coef _ _ _ _ _ _ (by omega) (by omega)]
      have s1 := subO_cd hL hK ((h2 (k + i)).up hK) (hcq i) hb hb2
      rw [thenO_ok s1, rowV_succ]
  have ep : pstep q k s.2 = (c, rowV q s.2 c k (q.length - 1)) := by
    show (coef s.2 (k + (q.length - 1)) / coef q (q.length - 1), (List.range s.2.length).map fun j => if k ≤ j ∧ j < k + (q.length - 1) then coef s.2 j - (coef s.2 (k + (q.length - 1)) / coef q (q.length - 1)) * coef q (j - k) else coef s.2 j) = _
    rw [hl, hcc]
    rfl
  rw [ep]
  refine ⟨?_, fun i => ?_, fun i => ?_, by show (rowV _ _ _ _ _).length = _; unfold rowV; rw [List.length_map, List.length_range]⟩
  · unfold rowO
    rw [hl, thenO_ok dc, thenO_ok (steps _ (Nat.le_refl _))]
  · cases i with
    | zero => exact hc.mono (by omega)
    | succ i => exact ((h1 i).up hK).mono (by omega)
  · show Cd L (E + 1) _ (coef (rowV q s.2 c k (q.length - 1)) i)
    unfold rowV
    rw [coef_map_range]
    split
    · split
      · exact ((h2 i).up hK).sub (hcq _)
      · exact ((h2 i).up hK).mono (by omega)
    · exact Cd.zero _ _ _
theorem pdivO_ok (hL : L ≠ 0) (hK : L.natAbs ≤ K) (hK1 : 1 ≤ K) (hq : IbL B q) (hl : coef q (q.length - 1) = (L : Rat)) (h0 : q.length ≠ 0) {p : List Rat} (hp : IbL A p) {m : Nat} (hm : p.length - (q.length - 1) ≤ m)
    (hb : ∀ j, j < m + 1 → nbd A B K j * K ^ j < BIG ∧ K ^ j * K ^ j < BIG) :
    pdivO p q = .ok (pdiv p q) ∧ (∀ i, Cd L (p.length - (q.length - 1)) (nbd A B K (p.length - (q.length - 1))) (coef (pdiv p q).1 i)) ∧ (∀ i, Cd L (p.length - (q.length - 1)) (nbd A B K (p.length - (q.length - 1))) (coef (pdiv p q).2 i)) := by
  obtain ⟨n, hn⟩ : ∃ n, p.length - (q.length - 1) = n := ⟨_, rfl⟩
  rw [hn] at hm
  rw [hn]
  have key : ∀ j, j ≤ n → ∃ s : List Rat × List Rat, stepsO (fun j s => rowO q (n - 1 - j) s) ([], p) j = .ok s ∧ pdivs q (n - j) s.1 s.2 = pdivs q n [] p ∧ s.2.length = p.length ∧ (∀ i, Cd L j (nbd A B K j) (coef s.1 i)) ∧ ∀ i, Cd L j (nbd A B K j) (coef s.2 i) := by
    intro j
    induction j with
    | zero => intro _; exact ⟨([], p), rfl, rfl, rfl, fun i => by rw [coef_nil]; exact Cd.zero _ _ _, fun i => Cd.int (hp i)⟩
    | succ j ih =>
      intro hj
      obtain ⟨s, e1, e2, e3, c1, c2⟩ := ih (Nat.le_of_succ_le hj)
      clear ih
      have hbj := hb (j + 1) (by omega)
      have hkk : n - 1 - j + (q.length - 1) < s.2.length := by omega
      have r := row_ok hL hK hq hl (k := n - 1 - j) (s := s) hkk c1 c2 hK1 hbj.1 hbj.2
      refine ⟨((pstep q (n - 1 - j) s.2).1 :: s.1, (pstep q (n - 1 - j) s.2).2), (by rw [stepsO_succ, thenO_ok e1]; exact r.1), ?_, by rw [← e3]; exact r.2.2.2, r.2.1, r.2.2.1⟩
      rw [← e2, show n - j = (n - 1 - j) + 1 by omega, show n - (j + 1) = n - 1 - j by omega]
      rfl
  obtain ⟨s, e1, e2, e3, c1, c2⟩ := key n (Nat.le_refl _)
  rw [Nat.sub_self] at e2
  have e4 : pdivs q n [] p = (s.1, s.2) := e2.symm
  have e5 : pdiv p q = (s.1, ptrim (s.2.take (min (q.length - 1) p.length))) := by
    show ((pdivs q (p.length - (q.length - 1)) [] p).1, ptrim ((pdivs q (p.length - (q.length - 1)) [] p).2.take (min (q.length - 1) p.length))) = _
    rw [hn, e4]
  rw [e5]
  refine ⟨?_, c1, fun i => ?_⟩
  · unfold pdivO
    rw [if_neg h0, hn, thenO_ok e1]
  · rw [ptrim_coef, coef_take]
    split
    · exact c2 i
    · exact Cd.zero _ _ _
end
end Go.Proofs.YtjbnclfbkccieaaGreatDoor
