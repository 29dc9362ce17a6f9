/-
  Stage 3: products and sums of rationals over a power of one integer; the division's values.
-/
import Derived.Test.YtjbnclfbkccieaaGreatDoorBehind2
import Derived.Test.YtjbnclfbkccieaaGreatDoorPolCd
namespace Go.Proofs.YtjbnclfbkccieaaGreatDoor
section
variable {L : Int} {E N M B K : Nat} {x y : Rat}
theorem Cd.at0 (h : Cd L E N x) (k : Cd L 0 M y) : Cd L E (N * M) (x * y) := by have := h.mul k; rwa [Nat.add_zero] at this
theorem sum_cd (hL : L ≠ 0) (hK : L.natAbs ≤ K) (hK1 : 1 ≤ K) {f g : Nat → Rat} (hf : ∀ i, Cd L E N (f i)) (hg : ∀ i, Cd L 0 B (g i)) (hb2 : K ^ E * K ^ E < BIG) : ∀ {n : Nat}, (n * (N * B)) * K ^ E < BIG →
    stepsO (fun j r => thenO (mulO (f j) (g j)) fun t => addO r t) 0 n = .ok (sm n fun j => f j * g j) ∧ Cd L E (n * (N * B)) (sm n fun j => f j * g j)
  | 0, _ => ⟨rfl, Cd.zero _ _ _⟩
  | n + 1, h => by
    have kp : 1 ≤ K ^ E := Nat.one_le_pow _ _ hK1
    have e : (n + 1) * (N * B) = n * (N * B) + N * B := Nat.succ_mul _ _
    rw [e] at h
    have h' := h
    rw [Nat.add_mul] at h'
    obtain ⟨h1, h2⟩ := sum_cd hL hK hK1 hf hg hb2 (n := n) (by omega)
    have b0 : N * B ≤ (N * B) * K ^ E := Nat.le_mul_of_pos_right _ kp
    have b1 : K ^ E ≤ K ^ E * K ^ E := Nat.le_mul_of_pos_right _ kp
    have m1 := mulO_cd hL hK (hf n) (hg n) (by omega) (by rw [Nat.pow_zero, Nat.mul_one]; omega)
    refine ⟨?_, by rw [e]; exact h2.add ((hf n).at0 (hg n))⟩
    rw [stepsO_succ, thenO_ok h1, thenO_ok m1, addO_cd hL hK h2 ((hf n).at0 (hg n)) h hb2]
    rfl
theorem pmulO_cd (hL : L ≠ 0) (hK : L.natAbs ≤ K) (hK1 : 1 ≤ K) {p q : List Rat} {n : Nat} (hp : ∀ i, Cd L E N (coef p i)) (hq : ∀ i, Cd L 0 B (coef q i)) (hn : p.length ≤ n) (hd : p.length - 1 + (q.length - 1) ≤ 64)
    (hb : (n * (N * B)) * K ^ E < BIG) (hb2 : K ^ E * K ^ E < BIG) : pmulO p q = .ok (pmul p q) ∧ ∀ i, Cd L E (n * (N * B)) (coef (pmul p q) i) := by
  unfold pmulO pmul
  by_cases h0 : p.length = 0 ∨ q.length = 0
  · rw [if_pos h0, if_pos h0]
    exact ⟨rfl, fun i => by rw [coef_nil]; exact Cd.zero _ _ _⟩
  · rw [if_neg h0, if_neg h0, if_neg (by omega)]
    have key : ∀ k, mulcO p q k = .ok (pmulc p q k) ∧ Cd L E (n * (N * B)) (pmulc p q k) := by
      intro k
      have hm : (min k (p.length - 1) + 1 - (k + 1 - q.length)) * (N * B) ≤ n * (N * B) := Nat.mul_le_mul_right _ (by omega)
      have hm2 := Nat.mul_le_mul_right (K ^ E) hm
      have := sum_cd hL hK hK1 (n := min k (p.length - 1) + 1 - (k + 1 - q.length)) (f := fun j => coef p (k + 1 - q.length + j)) (g := fun j => coef q (k - (k + 1 - q.length + j))) (fun i => hp _) (fun i => hq _) hb2 (by omega)
      exact ⟨this.1, this.2.mono hm⟩
    refine ⟨listO_ok fun i _ => (key i).1, fun i => ?_⟩
    rw [coef_map_range]
    split
    · exact (key i).2
    · exact Cd.zero _ _ _
theorem addL_cd (hL : L ≠ 0) (hK : L.natAbs ≤ K) {p q : List Rat} (hp : ∀ i, Cd L E N (coef p i)) (hq : ∀ i, Cd L E M (coef q i)) (hb : (N + M) * K ^ E < BIG) (hb2 : K ^ E * K ^ E < BIG) : combO addO p q = .ok (padd p q) := by
  unfold combO padd pcomb
  rw [thenO_ok (listO_ok fun i _ => addO_cd hL hK (hp i) (hq i) hb hb2)]
theorem nbd_up {A : Nat} (hK : L.natAbs ≤ K) {x : Rat} {n m : Nat} (h : n ≤ m) (hx : Cd L n (nbd A B K n) x) : Cd L m (nbd A B K m) x := by
  induction m with
  | zero => rw [← Nat.le_zero.1 h]; exact (Nat.le_zero.1 h) ▸ hx
  | succ m ih =>
    rcases Nat.lt_or_ge n (m + 1) with g | g
    · exact ((ih (by omega)).up hK).mono (Nat.le_add_right _ _)
    · have e : n = m + 1 := by omega
      subst e; exact hx
end
theorem pdivs_size (q : List Rat) : ∀ (k : Nat) (quot rest : List Rat), (pdivs q k quot rest).1.length = quot.length + k
  | 0, quot, rest => rfl
  | k + 1, quot, rest => by
    show (pdivs q k _ _).1.length = _
    rw [pdivs_size q k, List.length_cons]
    omega
theorem pdiv_size (p q : List Rat) : (pdiv p q).1.length = p.length - (q.length - 1) := by
  show (pdivs q (p.length - (q.length - 1)) [] p).1.length = _
  rw [pdivs_size, List.length_nil, Nat.zero_add]
/-- The quotient has no zeros at its end. -/
theorem pdiv_quot_trim {p q : List Rat} (hp : ptrim p = p) (hq : ptrim q = q) (h : q ≠ []) : ptrim (pdiv p q).1 = (pdiv p q).1 := by
  have c : coef q (q.length - 1) ≠ 0 := (trim_iff.1 hq).resolve_left h
  have s := pdiv_spec (p := p) c
  have l := pdiv_size p q
  have hq0 : q.length ≠ 0 := fun k => h (List.eq_nil_of_length_eq_zero k)
  rw [trim_iff]
  by_cases h0 : (pdiv p q).1 = []
  · exact Or.inl h0
  · right
    have l0 : (pdiv p q).1.length ≠ 0 := fun k => h0 (List.eq_nil_of_length_eq_zero k)
    have hp0 : p ≠ [] := by rintro rfl; rw [l] at l0; simp at l0
    have ct : coef p (p.length - 1) ≠ 0 := (trim_iff.1 hp).resolve_left hp0
    have st := s.1 (p.length - 1)
    rw [coef_past (p := (pdiv p q).2) (by have := s.2.1; omega), show p.length - 1 = (pdiv p q).1.length - 1 + (q.length - 1) by omega, pmul_top] at st
    intro z
    rw [z] at st
    refine ct ?_
    rw [show p.length - 1 = (pdiv p q).1.length - 1 + (q.length - 1) by omega, st]
    grind
/-- The values of the division's law. -/
structure DivV (p q : List Rat) : Prop where
  e : pdivO p q = .ok (pdiv p q)
  a : Tr (pdiv p q).1 ∧ (pdiv p q).1.length ≤ 65
  r : Tr (pdiv p q).2 ∧ (pdiv p q).2.length ≤ 65
  lt : (pdiv p q).2.length < q.length
  m : pmulO (pdiv p q).1 q = .ok (pmul (pdiv p q).1 q) ∧ Tr (pmul (pdiv p q).1 q) ∧ (pmul (pdiv p q).1 q).length ≤ 65
  s : combO addO (pmul (pdiv p q).1 q) (pdiv p q).2 = .ok p
theorem divn_v {p q : List Rat} (kp : Kn p 8 51) (kq : Kn q 8 51) (h : q ≠ []) : DivV p q := by
  have c : coef q (q.length - 1) ≠ 0 := (trim_iff.1 kq.t).resolve_left h
  have hq0 : q.length ≠ 0 := fun k => h (List.eq_nil_of_length_eq_zero k)
  obtain ⟨L, eL, bL⟩ := kq.b (q.length - 1)
  have hL : L ≠ 0 := by rintro rfl; exact c eL
  have hpn := kp.n
  have hqn := kq.n
  have d := pdivO_ok hL bL (by decide) kq.b eL hq0 kp.b (m := 8) (by omega) (by decide +kernel)
  have hn : p.length - (q.length - 1) ≤ 8 := by omega
  have ca : ∀ i, Cd L 8 (nbd 51 51 51 8) (coef (pdiv p q).1 i) := fun i => nbd_up bL hn (d.2.1 i)
  have cr : ∀ i, Cd L 8 (nbd 51 51 51 8) (coef (pdiv p q).2 i) := fun i => nbd_up bL hn (d.2.2 i)
  have cq : ∀ i, Cd L 0 51 (coef q i) := fun i => Cd.int (kq.b i)
  have la := pdiv_size p q
  have m := pmulO_cd hL bL (by decide) ca cq (n := 8) (by omega) (by omega) (by decide +kernel) (by decide +kernel)
  have v := pdiv_mul kp.t kq.t h
  have s := addL_cd hL bL m.2 cr (by decide +kernel) (by decide +kernel)
  have tq := pdiv_quot_trim kp.t kq.t h
  have lm := pmul_le (pdiv p q).1 q
  exact ⟨d.1, ⟨Tr.of tq, by omega⟩, ⟨Tr.of (pdiv_spec c).2.2, by have := v.2; omega⟩, v.2, ⟨m.1, Tr.of (pmul_trim tq kq.t), by omega⟩, by rw [s, v.1]⟩
end Go.Proofs.YtjbnclfbkccieaaGreatDoor
