/-
  Stage 3: on lists of small integers the program's functions make no error: what they compute, and how great it may be. Stage 3: UnipolyRing. An argument of the program's rational type, as the row reads it. The closed facts of the rows: what the program's head says is read off its letters once; the other facts by the kernel. Stage 3: an argument that is a list of integers, as the row reads it. Stage 3: the tables that a row lists, and a heap that meets them.
-/
import Derived.ProofKit
import Derived.SizedLaws
import Derived.Lib.SmallJoins
import Derived.Test.YtjbnclfbkccieaaGreatDoorRows
import Derived.LaidMore
import Derived.Stop.Joined
import Derived.SevenTiedAt
import Derived.Test.YtjbnclfbkccieaaGreatDoorCards
import Derived.Test.YtjbnclfbkccieaaGreatDoorPolE
import Derived.Test.YtjbnclfbkccieaaGreatDoorPolD
import Derived.Test.YtjbnclfbkccieaaGreatDoorRatF
import Derived.Test.YtjbnclfbkccieaaGreatDoorUniL
namespace Go.Proofs.YtjbnclfbkccieaaGreatDoor
/-- An integer of this size. -/
def Ib (B : Nat) (x : Rat) : Prop := ∃ z : Int, x = (z : Rat) ∧ z.natAbs ≤ B
def IbL (B : Nat) (l : List Rat) : Prop := ∀ i, Ib B (coef l i)
theorem Ib.zero (B : Nat) : Ib B 0 := ⟨0, rfl, Nat.zero_le _⟩
theorem Ib.mono {A B : Nat} {x : Rat} (h : Ib A x) (k : A ≤ B) : Ib B x := by obtain ⟨z, e, l⟩ := h; exact ⟨z, e, Nat.le_trans l k⟩
theorem Ib.int (z : Int) : Ib z.natAbs (z : Rat) := ⟨z, rfl, Nat.le_refl _⟩
theorem Ib.add {A B : Nat} {x y : Rat} (h : Ib A x) (k : Ib B y) : Ib (A + B) (x + y) := by
  obtain ⟨z, rfl, l⟩ := h
  obtain ⟨u, rfl, m⟩ := k
  exact ⟨z + u, by push_cast; rfl, by omega⟩
theorem Ib.sub {A B : Nat} {x y : Rat} (h : Ib A x) (k : Ib B y) : Ib (A + B) (x - y) := by
  obtain ⟨z, rfl, l⟩ := h
  obtain ⟨u, rfl, m⟩ := k
  exact ⟨z - u, by push_cast; rfl, by omega⟩
theorem Ib.mul {A B : Nat} {x y : Rat} (h : Ib A x) (k : Ib B y) : Ib (A * B) (x * y) := by
  obtain ⟨z, rfl, l⟩ := h
  obtain ⟨u, rfl, m⟩ := k
  exact ⟨z * u, by push_cast; rfl, by rw [Int.natAbs_mul]; exact Nat.mul_le_mul l m⟩
theorem fz_of {z : Int} {B : Nat} (h : z.natAbs ≤ B) (k : B < BIG) : fz z = true := by unfold fz; exact decide_eq_true (Nat.lt_of_le_of_lt h k)
theorem one_big : (1 : Nat) < BIG := by decide +kernel
theorem addO_ok {A B : Nat} {x y : Rat} (h : Ib A x) (k : Ib B y) (hb : A + B < BIG) : addO x y = .ok (x + y) := by
  obtain ⟨z, rfl, l⟩ := h
  obtain ⟨u, rfl, m⟩ := k
  unfold addO
  rw [if_pos]
  rw [Rat.num_intCast, Rat.num_intCast, Rat.den_intCast, Rat.den_intCast]
  rw [fz_of (B := A + B) (by omega) hb, fz_of (B := A + B) (by omega) hb, fz_of (B := A + B) (by omega) hb, fz_of (B := 1) (by decide) one_big]
  rfl
theorem subO_ok {A B : Nat} {x y : Rat} (h : Ib A x) (k : Ib B y) (hb : A + B < BIG) : subO x y = .ok (x - y) := by
  obtain ⟨z, rfl, l⟩ := h
  obtain ⟨u, rfl, m⟩ := k
  unfold subO
  rw [if_pos]
  rw [Rat.num_intCast, Rat.num_intCast, Rat.den_intCast, Rat.den_intCast]
  rw [fz_of (B := A + B) (by omega) hb, fz_of (B := A + B) (by omega) hb, fz_of (B := A + B) (by omega) hb, fz_of (B := 1) (by decide) one_big]
  rfl
theorem mulO_ok {A B : Nat} {x y : Rat} (h : Ib A x) (k : Ib B y) (hb : A * B < BIG) : mulO x y = .ok (x * y) := by
  obtain ⟨z, rfl, l⟩ := h
  obtain ⟨u, rfl, m⟩ := k
  unfold mulO
  rw [if_pos]
  rw [Rat.num_intCast, Rat.num_intCast, Rat.den_intCast, Rat.den_intCast]
  rw [fz_of (B := A * B) (by rw [Int.natAbs_mul]; exact Nat.mul_le_mul l m) hb, fz_of (B := 1) (by decide) one_big]
  rfl
theorem listO_ok {f : Nat → Except Int Rat} {g : Nat → Rat} : ∀ {n : Nat}, (∀ i, i < n → f i = .ok (g i)) → listO f n = .ok ((List.range n).map g)
  | 0, _ => rfl
  | n + 1, h => by
    have ih := listO_ok (f := f) (g := g) (n := n) (fun i hi => h i (by omega))
    unfold listO at *
    rw [stepsO_succ, thenO_ok ih, thenO_ok (h n (by omega)), List.range_succ, List.map_append]
    rfl
theorem sum_ok {f g : Nat → Rat} {A B : Nat} : ∀ {n : Nat}, (∀ i, Ib A (f i)) → (∀ i, Ib B (g i)) → n * (A * B) < BIG →
    stepsO (fun j r => thenO (mulO (f j) (g j)) fun t => addO r t) 0 n = .ok (sm n fun j => f j * g j) ∧ Ib (n * (A * B)) (sm n fun j => f j * g j)
  | 0, _, _, _ => ⟨rfl, Ib.zero _⟩
  | n + 1, hf, hg, h => by
    have e : (n + 1) * (A * B) = n * (A * B) + A * B := Nat.succ_mul _ _
    rw [e] at h
    obtain ⟨h1, h2⟩ := sum_ok (n := n) hf hg (by omega)
    refine ⟨?_, by rw [e]; exact h2.add ((hf n).mul (hg n))⟩
    rw [stepsO_succ, thenO_ok h1, thenO_ok (mulO_ok (hf n) (hg n) (by omega)), addO_ok h2 ((hf n).mul (hg n)) h]
    rfl
theorem coef_range_ib {n B : Nat} {f : Nat → Rat} (h : ∀ i, Ib B (f i)) : IbL B ((List.range n).map f) := fun i => by
  rw [coef_map_range]
  split
  · exact h i
  · exact Ib.zero _
theorem IbL.trim {B : Nat} {l : List Rat} (h : IbL B l) : IbL B (ptrim l) := fun i => by rw [ptrim_coef]; exact h i
theorem IbL.mono {A B : Nat} {l : List Rat} (h : IbL A l) (k : A ≤ B) : IbL B l := fun i => (h i).mono k
theorem IbL.nil (B : Nat) : IbL B [] := fun i => by rw [coef_nil]; exact Ib.zero _
theorem pmulO_ok {p q : List Rat} {A B n : Nat} (hp : IbL A p) (hq : IbL B q) (hn : p.length ≤ n) (hd : p.length - 1 + (q.length - 1) ≤ 64) (hb : n * (A * B) < BIG) : pmulO p q = .ok (pmul p q) ∧ IbL (n * (A * B)) (pmul p q) := by
  unfold pmulO pmul
  by_cases h0 : p.length = 0 ∨ q.length = 0
  · rw [if_pos h0, if_pos h0]
    exact ⟨rfl, IbL.nil _⟩
  · rw [if_neg h0, if_neg h0, if_neg (by omega)]
    have key : ∀ k, mulcO p q k = .ok (pmulc p q k) ∧ Ib (n * (A * B)) (pmulc p q k) := by
      intro k
      have hm : (min k (p.length - 1) + 1 - (k + 1 - q.length)) * (A * B) ≤ n * (A * B) := Nat.mul_le_mul_right _ (by omega)
      have := sum_ok (n := min k (p.length - 1) + 1 - (k + 1 - q.length)) (f := fun j => coef p (k + 1 - q.length + j)) (g := fun j => coef q (k - (k + 1 - q.length + j))) (fun i => hp _) (fun i => hq _) (by omega)
      exact ⟨this.1, this.2.mono hm⟩
    exact ⟨listO_ok fun i _ => (key i).1, coef_range_ib fun i => (key i).2⟩
theorem addL_ok {p q : List Rat} {A B : Nat} (hp : IbL A p) (hq : IbL B q) (hb : A + B < BIG) : combO addO p q = .ok (padd p q) ∧ IbL (A + B) (padd p q) := by
  unfold combO padd pcomb
  rw [thenO_ok (listO_ok fun i _ => addO_ok (hp i) (hq i) hb)]
  exact ⟨rfl, (coef_range_ib fun i => (hp i).add (hq i)).trim⟩
theorem subL_ok {p q : List Rat} {A B : Nat} (hp : IbL A p) (hq : IbL B q) (hb : A + B < BIG) : combO subO p q = .ok (psub p q) ∧ IbL (A + B) (psub p q) := by
  unfold combO psub pcomb
  rw [thenO_ok (listO_ok fun i _ => subO_ok (hp i) (hq i) hb)]
  exact ⟨rfl, (coef_range_ib fun i => (hp i).sub (hq i)).trim⟩
theorem pmul_le (p q : List Rat) : (pmul p q).length ≤ p.length + q.length := by
  unfold pmul
  split
  · exact Nat.zero_le _
  · rw [List.length_map, List.length_range]; omega
theorem pcomb_le (f : Rat → Rat → Rat) (p q : List Rat) : (pcomb f p q).length ≤ max p.length q.length := by
  unfold pcomb
  refine Nat.le_trans (ptrim_len _) ?_
  rw [List.length_map, List.length_range]
  exact Nat.le_refl _
/-- What is known of a polynomial in a law: it is trimmed, how long it is, how great its coefficients are. -/
structure Kn (l : List Rat) (n B : Nat) : Prop where
  t : ptrim l = l
  n : l.length ≤ n
  b : IbL B l
theorem Kn.nil (n B : Nat) : Kn [] n B := ⟨rfl, Nat.zero_le _, IbL.nil _⟩
theorem Kn.mul {p q : List Rat} {n m A B : Nat} (h : Kn p n A) (k : Kn q m B) (hn : n + m ≤ 64) (hb : n * (A * B) < BIG) : pmulO p q = .ok (pmul p q) ∧ Kn (pmul p q) (n + m) (n * (A * B)) := by
  have hp := h.n
  have hq := k.n
  have := pmulO_ok h.b k.b hp (by omega) hb
  have hl := pmul_le p q
  exact ⟨this.1, pmul_trim h.t k.t, by omega, this.2⟩
theorem Kn.add {p q : List Rat} {n m A B : Nat} (h : Kn p n A) (k : Kn q m B) (hb : A + B < BIG) : combO addO p q = .ok (padd p q) ∧ Kn (padd p q) (max n m) (A + B) := by
  have hp := h.n
  have hq := k.n
  have := addL_ok h.b k.b hb
  have hl := pcomb_le (· + ·) p q
  exact ⟨this.1, padd_trim p q, by unfold padd; omega, this.2⟩
theorem Kn.sub {p q : List Rat} {n m A B : Nat} (h : Kn p n A) (k : Kn q m B) (hb : A + B < BIG) : combO subO p q = .ok (psub p q) ∧ Kn (psub p q) (max n m) (A + B) := by
  have hp := h.n
  have hq := k.n
  have := subL_ok h.b k.b hb
  have hl := pcomb_le (· - ·) p q
  exact ⟨this.1, psub_trim p q, by unfold psub; omega, this.2⟩
end Go.Proofs.YtjbnclfbkccieaaGreatDoor
namespace Go.Proofs.YtjbnclfbkccieaaGreatDoor
open Go.RowKit
theorem Kn.ok {l : List Rat} {n B : Nat} (h : Kn l n B) (hn : n ≤ 65) : Tr l ∧ l.length ≤ 65 := ⟨Tr.of h.t, Nat.le_trans h.n hn⟩
theorem kn_poly (zs : List Int) (m : Nat) : Kn (polyL zs m) m 51 := by
  refine ⟨ptrim_idem _, ?_, IbL.trim fun i => ?_⟩
  · have h1 := ptrim_le (cofs zs m)
    have h2 : (cofs zs m).length ≤ m := by unfold cofs; rw [List.length_map, List.length_take]; omega
    unfold polyL
    omega
  · rcases Nat.lt_or_ge i (cofs zs m).length with g | g
    · have e : coef (cofs zs m) i = (cofs zs m)[i] := by unfold coef; rw [List.getD_eq_getElem?_getD, List.getElem?_eq_getElem g]; rfl
      obtain ⟨z, _, hz⟩ := List.mem_map.1 (show (cofs zs m)[i] ∈ (zs.take m).map fun z => ((pk z 101 - 50 : Int) : Rat) from List.getElem_mem g)
      rw [e, ← hz]
      have h1 := pk_lo z (n := 101) (by decide)
      have h2 := pk_hi z (n := 101) (by decide)
      exact ⟨_, rfl, by omega⟩
    · rw [coef_past g]; exact Ib.zero _
theorem big64 {n : Nat} (h : n < 18446744073709551616) : n < BIG := Nat.lt_of_lt_of_le h (by decide +kernel)
/-- The values of the ring's law. -/
structure RingV (a b c : List Rat) : Prop where
  ka : Kn a 6 51
  kb : Kn b 6 51
  kc : Kn c 6 51
  ab : pmulO a b = .ok (pmul a b) ∧ Kn (pmul a b) 12 (6 * (51 * 51))
  ba : pmulO b a = .ok (pmul a b)
  s : combO addO b c = .ok (padd b c) ∧ Kn (padd b c) 6 102
  x : pmulO a (padd b c) = .ok (pmul a (padd b c)) ∧ Kn (pmul a (padd b c)) 12 (6 * (51 * 102))
  ac : pmulO a c = .ok (pmul a c) ∧ Kn (pmul a c) 12 (6 * (51 * 51))
  y : combO addO (pmul a b) (pmul a c) = .ok (pmul a (padd b c))
  bc : pmulO b c = .ok (pmul b c) ∧ Kn (pmul b c) 12 (6 * (51 * 51))
  x2 : pmulO a (pmul b c) = .ok (pmul a (pmul b c)) ∧ Kn (pmul a (pmul b c)) 18 (6 * (51 * (6 * (51 * 51))))
  y2 : pmulO (pmul a b) c = .ok (pmul a (pmul b c))
  d : combO subO (padd b c) c = .ok b
theorem ring_v {a b c : List Rat} (ka : Kn a 6 51) (kb : Kn b 6 51) (kc : Kn c 6 51) : RingV a b c := by
  have ab := ka.mul kb (by decide) (big64 (by decide))
  have ba := kb.mul ka (by decide) (big64 (by decide))
  have s := kb.add kc (big64 (by decide))
  have x := ka.mul s.2 (by decide) (big64 (by decide))
  have ac := ka.mul kc (by decide) (big64 (by decide))
  have y := ab.2.add ac.2 (big64 (by decide))
  have bc := kb.mul kc (by decide) (big64 (by decide))
  have x2 := ka.mul bc.2 (by decide) (big64 (by decide))
  have y2 := ab.2.mul kc (by decide) (big64 (by decide))
  have d := s.2.sub kc (big64 (by decide))
  exact ⟨ka, kb, kc, ab, by rw [ba.1, pmul_comm kb.t ka.t], s, x, ac, by rw [y.1, pmul_padd ka.t], bc, x2, by rw [y2.1, pmul_assoc ka.t kb.t kc.t], by rw [d.1, psub_padd kb.t]⟩
set_option linter.unusedSimpArgs false in
set_option linter.unusedVariables false in
set_option maxRecDepth 20000 in
set_option maxHeartbeats 4000000 in
theorem unipolyRing_any (Aa : Option Addr) (na ca : Nat) (za : List Int) (Ab : Option Addr) (nb cb : Nat) (zb : List Int) (Ac : Option Addr) (nc cc : Nat) (zc : List Int) (w : World) (ia : ISl w Aa na ca za) (ib : ISl w Ab nb cb zb) (ic : ISl w Ac nc cc zc) : Calls Tryz.prog 6 #[.slice Aa na ca, .slice Ab nb cb, .slice Ac nc cc] w (Yes w) := by
  have M0 := hI (Lm.nil w)
  obtain ⟨a, ha⟩ : ∃ a, polyL za 6 = a := ⟨_, rfl⟩
  obtain ⟨b, hb⟩ : ∃ b, polyL zb 6 = b := ⟨_, rfl⟩
  obtain ⟨c, hc⟩ : ∃ c, polyL zc 6 = c := ⟨_, rfl⟩
  have HV := hI (ring_v (ha ▸ kn_poly za 6) (hb ▸ kn_poly zb 6) (hc ▸ kn_poly zc 6))
  have Ea := hI ha
  have Ia := hI ia
  have Eb := hI hb
  have Ib := hI ib
  have Ec := hI hc
  have Ic := hI ic
  clear ha hb hc ia ib ic
  go_enter Tryz.func6, Tryz.ntmps6
  go_wp2_with fail
  refine (sane_any w).mono ?_
  rintro e w1 ⟨rfl, hb⟩
  have M2 := hI (M0.out.on hb)
  clear M0 hb
  go_wp2_with fail
  have C := poly_any Aa na ca za 6 w1 (Ia.out.on M2.out.bel) (by decide)
  rw [Ea.out] at C
  refine C.mono ?_
  clear C
  rintro e w3 ⟨Aa, na, ca, rfl, hp, hb⟩
  have M3 := hI ((M2.out.on hb).add (x := .p Aa na ca a) ⟨hp, HV.out.ka.ok (by decide)⟩)
  clear M2 hp hb
  go_wp2_with fail
  have C := poly_any Ab nb cb zb 6 w3 (Ib.out.on M3.out.bel) (by decide)
  rw [Eb.out] at C
  refine C.mono ?_
  clear C
  rintro e w4 ⟨Ab, nb, cb, rfl, hp, hb⟩
  have M4 := hI ((M3.out.on hb).add (x := .p Ab nb cb b) ⟨hp, HV.out.kb.ok (by decide)⟩)
  clear M3 hp hb
  go_wp2_with fail
  have C := poly_any Ac nc cc zc 6 w4 (Ic.out.on M4.out.bel) (by decide)
  rw [Ec.out] at C
  refine C.mono ?_
  clear C
  rintro e w5 ⟨Ac, nc, cc, rfl, hp, hb⟩
  have M5 := hI ((M4.out.on hb).add (x := .p Ac nc cc c) ⟨hp, HV.out.kc.ok (by decide)⟩)
  clear M4 hp hb
  go_wp2_with fail
  have C := Mul_any _ _ _ _ _ _ _ _ w5 (M5.out.p 2 rfl).1 (M5.out.p 1 rfl).1 (M5.out.p 2 rfl).2.1 (M5.out.p 1 rfl).2.1 (M5.out.p 2 rfl).2.2 (M5.out.p 1 rfl).2.2
  rw [HV.out.ab.1] at C
  refine C.mono ?_
  clear C
  rintro e w6 ⟨Aab, nab, cab, rfl, hp, hb⟩
  have M6 := hI ((M5.out.on hb).add (x := .p Aab nab cab (pmul a b)) ⟨hp, HV.out.ab.2.ok (by decide)⟩)
  clear M5 hp hb
  go_wp2_with fail
  have C := Mul_any _ _ _ _ _ _ _ _ w6 (M6.out.p 2 rfl).1 (M6.out.p 3 rfl).1 (M6.out.p 2 rfl).2.1 (M6.out.p 3 rfl).2.1 (M6.out.p 2 rfl).2.2 (M6.out.p 3 rfl).2.2
  rw [HV.out.ba] at C
  refine C.mono ?_
  clear C
  rintro e w7 ⟨Aba, nba, cba, rfl, hp, hb⟩
  have M7 := hI ((M6.out.on hb).add (x := .p Aba nba cba (pmul a b)) ⟨hp, HV.out.ab.2.ok (by decide)⟩)
  clear M6 hp hb
  go_wp2_with fail
  have C := Add_any _ _ _ _ _ _ _ _ w7 (M7.out.p 3 rfl).1 (M7.out.p 2 rfl).1 (M7.out.p 3 rfl).2.1 (M7.out.p 2 rfl).2.1 (M7.out.p 3 rfl).2.2 (M7.out.p 2 rfl).2.2
  rw [HV.out.s.1] at C
  refine C.mono ?_
  clear C
  rintro e w8 ⟨As, ns, cs, rfl, hp, hb⟩
  have M8 := hI ((M7.out.on hb).add (x := .p As ns cs (padd b c)) ⟨hp, HV.out.s.2.ok (by decide)⟩)
  clear M7 hp hb
  go_wp2_with fail
  refine (same_yes (M8.out.p 2 rfl).1 (M8.out.p 1 rfl).1 (by have := (M8.out.p 2 rfl).2.2; omega)).mono ?_
  rintro e w9 ⟨rfl, hb⟩
  have M10 := hI (M8.out.on hb)
  clear M8 hb
  go_wp2_with fail
  have C := Mul_any _ _ _ _ _ _ _ _ w9 (M10.out.p 5 rfl).1 (M10.out.p 0 rfl).1 (M10.out.p 5 rfl).2.1 (M10.out.p 0 rfl).2.1 (M10.out.p 5 rfl).2.2 (M10.out.p 0 rfl).2.2
  rw [HV.out.x.1] at C
  refine C.mono ?_
  clear C
  rintro e w11 ⟨Ax, nx, cx, rfl, hp, hb⟩
  have M11 := hI ((M10.out.on hb).add (x := .p Ax nx cx (pmul a (padd b c))) ⟨hp, HV.out.x.2.ok (by decide)⟩)
  clear M10 hp hb
  go_wp2_with fail
  have C := Mul_any _ _ _ _ _ _ _ _ w11 (M11.out.p 6 rfl).1 (M11.out.p 4 rfl).1 (M11.out.p 6 rfl).2.1 (M11.out.p 4 rfl).2.1 (M11.out.p 6 rfl).2.2 (M11.out.p 4 rfl).2.2
  rw [HV.out.ac.1] at C
  refine C.mono ?_
  clear C
  rintro e w12 ⟨Aac, nac, cac, rfl, hp, hb⟩
  have M12 := hI ((M11.out.on hb).add (x := .p Aac nac cac (pmul a c)) ⟨hp, HV.out.ac.2.ok (by decide)⟩)
  clear M11 hp hb
  go_wp2_with fail
  have C := Add_any _ _ _ _ _ _ _ _ w12 (M12.out.p 4 rfl).1 (M12.out.p 0 rfl).1 (M12.out.p 4 rfl).2.1 (M12.out.p 0 rfl).2.1 (M12.out.p 4 rfl).2.2 (M12.out.p 0 rfl).2.2
  rw [HV.out.y] at C
  refine C.mono ?_
  clear C
  rintro e w13 ⟨Ay, ny, cy, rfl, hp, hb⟩
  have M13 := hI ((M12.out.on hb).add (x := .p Ay ny cy (pmul a (padd b c))) ⟨hp, HV.out.x.2.ok (by decide)⟩)
  clear M12 hp hb
  go_wp2_with fail
  refine (same_yes (M13.out.p 2 rfl).1 (M13.out.p 0 rfl).1 (by have := (M13.out.p 2 rfl).2.2; omega)).mono ?_
  rintro e w14 ⟨rfl, hb⟩
  have M15 := hI (M13.out.on hb)
  clear M13 hb
  go_wp2_with fail
  have C := Mul_any _ _ _ _ _ _ _ _ w14 (M15.out.p 7 rfl).1 (M15.out.p 6 rfl).1 (M15.out.p 7 rfl).2.1 (M15.out.p 6 rfl).2.1 (M15.out.p 7 rfl).2.2 (M15.out.p 6 rfl).2.2
  rw [HV.out.bc.1] at C
  refine C.mono ?_
  clear C
  rintro e w16 ⟨Abc, nbc, cbc, rfl, hp, hb⟩
  have M16 := hI ((M15.out.on hb).add (x := .p Abc nbc cbc (pmul b c)) ⟨hp, HV.out.bc.2.ok (by decide)⟩)
  clear M15 hp hb
  go_wp2_with fail
  have C := Mul_any _ _ _ _ _ _ _ _ w16 (M16.out.p 9 rfl).1 (M16.out.p 0 rfl).1 (M16.out.p 9 rfl).2.1 (M16.out.p 0 rfl).2.1 (M16.out.p 9 rfl).2.2 (M16.out.p 0 rfl).2.2
  rw [HV.out.x2.1] at C
  refine C.mono ?_
  clear C
  rintro e w17 ⟨Ax2, nx2, cx2, rfl, hp, hb⟩
  have M17 := hI ((M16.out.on hb).add (x := .p Ax2 nx2 cx2 (pmul a (pmul b c))) ⟨hp, HV.out.x2.2.ok (by decide)⟩)
  clear M16 hp hb
  go_wp2_with fail
  have C := Mul_any _ _ _ _ _ _ _ _ w17 (M17.out.p 7 rfl).1 (M17.out.p 8 rfl).1 (M17.out.p 7 rfl).2.1 (M17.out.p 8 rfl).2.1 (M17.out.p 7 rfl).2.2 (M17.out.p 8 rfl).2.2
  rw [HV.out.y2] at C
  refine C.mono ?_
  clear C
  rintro e w18 ⟨Ay2, ny2, cy2, rfl, hp, hb⟩
  have M18 := hI ((M17.out.on hb).add (x := .p Ay2 ny2 cy2 (pmul a (pmul b c))) ⟨hp, HV.out.x2.2.ok (by decide)⟩)
  clear M17 hp hb
  go_wp2_with fail
  have C := Sub_any _ _ _ _ _ _ _ _ w18 (M18.out.p 6 rfl).1 (M18.out.p 9 rfl).1 (M18.out.p 6 rfl).2.1 (M18.out.p 9 rfl).2.1 (M18.out.p 6 rfl).2.2 (M18.out.p 9 rfl).2.2
  rw [HV.out.d] at C
  refine C.mono ?_
  clear C
  rintro e w19 ⟨Ad, nd, cd, rfl, hp, hb⟩
  have M19 := hI ((M18.out.on hb).add (x := .p Ad nd cd b) ⟨hp, HV.out.kb.ok (by decide)⟩)
  clear M18 hp hb
  go_wp2_with fail
  refine (same_yes (M19.out.p 2 rfl).1 (M19.out.p 1 rfl).1 (by have := (M19.out.p 2 rfl).2.2; omega)).mono ?_
  rintro e w20 ⟨rfl, hb⟩
  have M21 := hI (M19.out.on hb)
  clear M19 hb
  go_wp2_with fail
  refine (same_yes (M21.out.p 0 rfl).1 (M21.out.p 11 rfl).1 (by have := (M21.out.p 0 rfl).2.2; omega)).mono ?_
  rintro e w22 ⟨rfl, hb⟩
  have M23 := hI (M21.out.on hb)
  clear M21 hb
  go_wp2
  go_ret
  exact ⟨rfl, M23.out.bel⟩
end Go.Proofs.YtjbnclfbkccieaaGreatDoor
namespace Go.Proofs.YtjbnclfbkccieaaGreatDoor
open Go.ChangeShapes Go.WideShapes Go.ChangeAt Go.RowKit Go.Joins
theorem Tryz.own : ownKnob Tryz.prog.godebug = none := by kernel_rfl
theorem Tryz.laidOut : laidOutB Tryz.prog = true := by kernel_rfl
section
variable {H : Type} {enc : TypeId × Value → H} {W : World}
theorem i64_bounds {z : Int} (h : (Lit.int .i64 z).wf = true) : -9223372036854775808 ≤ z ∧ z ≤ 9223372036854775807 := by
  have h1 : IntKind.i64.min = -9223372036854775808 := rfl
  have h2 : IntKind.i64.max = 9223372036854775807 := rfl
  simp only [Lit.wf, Bool.and_eq_true, decide_eq_true_eq] at h
  omega
end
end Go.Proofs.YtjbnclfbkccieaaGreatDoor
namespace Go.Proofs.YtjbnclfbkccieaaGreatDoor
open Go
/-- The letters of the program's head. -/
def headNums : List Nat := [104, 97, 114, 110, 101, 115, 115, 32, 57, 50, 99, 55, 57, 49, 100, 97, 50, 50, 99, 97, 54, 50, 57, 54, 50, 50, 51, 48, 53, 51, 55, 48, 48, 54, 49, 52, 102, 54, 53, 102, 48, 49, 56, 53, 101, 101, 55, 55, 50, 55, 102, 102, 57, 101, 97, 55, 102, 48, 99, 102, 56, 48, 50, 48, 101, 53, 102, 100, 98, 50, 49, 54, 32, 99, 117, 116, 32, 97, 116, 32, 115, 116, 114, 97, 105, 103, 104, 116, 101, 100, 103, 101, 47, 115, 116, 114, 97, 105, 103, 104, 116, 101, 100, 103, 101, 108, 97, 119, 48, 51, 46, 85, 110, 105, 112, 111, 108, 121, 77, 97, 116, 99, 104, 101, 115, 82, 101, 102, 101, 114, 101, 110, 99, 101, 32, 115, 116, 114, 97, 105, 103, 104, 116, 101, 100, 103, 101, 47, 115, 116, 114, 97, 105, 103, 104, 116, 101, 100, 103, 101, 108, 97, 119, 48, 51, 46, 85, 110, 105, 112, 111, 108, 121, 76, 105, 109, 105, 116, 115, 32, 115, 116, 114, 97, 105, 103, 104, 116, 101, 100, 103, 101, 47, 115, 116, 114, 97, 105, 103, 104, 116, 101, 100, 103, 101, 108, 97, 119, 48, 51, 46, 85, 110, 105, 112, 111, 108, 121, 71, 114, 101, 97, 116, 78, 117, 109, 98, 101, 114, 115, 32, 115, 116, 114, 97, 105, 103, 104, 116, 101, 100, 103, 101, 47, 115, 116, 114, 97, 105, 103, 104, 116, 101, 100, 103, 101, 108, 97, 119, 48, 51, 46, 85, 110, 105, 112, 111, 108, 121, 82, 105, 110, 103, 32, 115, 116, 114, 97, 105, 103, 104, 116, 101, 100, 103, 101, 47, 115, 116, 114, 97, 105, 103, 104, 116, 101, 100, 103, 101, 108, 97, 119, 48, 51, 46, 85, 110, 105, 112, 111, 108, 121, 68, 105, 118, 105, 115, 105, 111, 110, 32, 115, 116, 114, 97, 105, 103, 104, 116, 101, 100, 103, 101, 47, 115, 116, 114, 97, 105, 103, 104, 116, 101, 100, 103, 101, 108, 97, 119, 48, 51, 46, 85, 110, 105, 112, 111, 108, 121, 68, 105, 118, 105, 115, 111, 114, 115, 32, 115, 116, 114, 97, 105, 103, 104, 116, 101, 100, 103, 101, 47, 115, 116, 114, 97, 105, 103, 104, 116, 101, 100, 103, 101, 108, 97, 119, 48, 51, 46, 85, 110, 105, 112, 111, 108, 121, 69, 118, 97, 108, 117, 97, 116, 101, 115, 32, 115, 116, 114, 97, 105, 103, 104, 116, 101, 100, 103, 101, 47, 115, 116, 114, 97, 105, 103, 104, 116, 101, 100, 103, 101, 108, 97, 119, 48, 51, 46, 85, 110, 105, 112, 111, 108, 121, 68, 101, 114, 105, 118, 101, 115, 32, 115, 116, 114, 97, 105, 103, 104, 116, 101, 100, 103, 101, 47, 115, 116, 114, 97, 105, 103, 104, 116, 101, 100, 103, 101, 108, 97, 119, 48, 51, 46, 85, 110, 105, 112, 111, 108, 121, 83, 113, 117, 97, 114, 101, 102, 114, 101, 101, 32, 115, 116, 114, 97, 105, 103, 104, 116, 101, 100, 103, 101, 47, 115, 116, 114, 97, 105, 103, 104, 116, 101, 100, 103, 101, 108, 97, 119, 48, 51, 46, 85, 110, 105, 112, 111, 108, 121, 82, 101, 115, 117, 108, 116, 97, 110, 116, 115, 32, 115, 116, 114, 97, 105, 103, 104, 116, 101, 100, 103, 101, 47, 115, 116, 114, 97, 105, 103, 104, 116, 101, 100, 103, 101, 108, 97, 119, 48, 51, 46, 85, 110, 105, 112, 111, 108, 121, 79, 118, 101, 114, 73, 110, 116, 101, 103, 101, 114, 115]
def headChars : List Char := headNums.map Char.ofNat
theorem head_eq : Tryz.prog.initOrder = String.ofList headChars := by kernel_rfl
theorem head_chars : Tryz.prog.initOrder.toList = headChars := by rw [head_eq]; exact String.toList_ofList
theorem head_words : behindMainWord (wordsSigns headChars) = "cut".toList :: (behindMainWord (wordsSigns headChars)).tail := by kernel_rfl
theorem words : behindMainWord (wordsSigns Tryz.prog.initOrder.toList) = "cut".toList :: (behindMainWord (wordsSigns headChars)).tail := by rw [head_chars]; exact head_words
theorem make_cut {P : Program} {rest : List (List Char)} (h : behindMainWord (wordsSigns P.initOrder.toList) = "cut".toList :: rest) : P.make = some .cut := by
  unfold Program.make; rw [h]; rfl
theorem strip_cut (rest : List (List Char)) : stripLifts liftWords ("cut".toList :: rest) = ([], "cut".toList :: rest) := by rfl
theorem lifts_cut {P : Program} {rest : List (List Char)} (h : behindMainWord (wordsSigns P.initOrder.toList) = "cut".toList :: rest) : P.liftsFinal = false := by
  unfold Program.liftsFinal Program.headLifts; rw [h, strip_cut]; rfl
theorem enter_cut {P : Program} {rest : List (List Char)} (h : behindMainWord (wordsSigns P.initOrder.toList) = "cut".toList :: rest) (h1 : P.laysLater = false) (h2 : P.bearsReflect = false) (h3 : P.doorFits [] = true) : P.mayEnter = true := by
  unfold Program.mayEnter; rw [h]; simp only [strip_cut, h1, h2, h3]; rfl
theorem may_enter : Tryz.prog.mayEnter = true := enter_cut words (by kernel_rfl) (by kernel_rfl) (by kernel_rfl)
theorem lifts_final : Tryz.prog.liftsFinal = false := lifts_cut words
theorem made_so : Tryz.prog.make = some .cut := make_cut words
/-- All closed facts but the three that read the head. -/
def restFacts (P : Program) (f : FuncId) (fn : Func) (s : ChangeSpec) (c : OpenClaim) : Bool :=
  c.wf (OpenSpec.ofChange s) && laidOutB P && mapsRowed P && fn.params.all (P.readableRec ·) && namedTie P c.named s.vars && (c.stops == []) && (P.stops == []) && (c.knobs == []) && (P.stopKnobs == []) && (c.inPlace == P.inPlace f) && (c.unfollowed == P.unfollowed f) && (c.recurses == P.recurses f) && (c.named == P.varsNamed f) && (c.maps == (fn.params.toList ++ s.plain.varTypes P).any (P.mapsRec ·)) && (c.ifaces == (fn.params.toList ++ s.plain.varTypes P).any (P.ifacesRec ·)) && (c.mapsOut == P.mapsAmong fn.resultTypes.toList) && (c.loops == (fn.params.toList ++ s.plain.varTypes P).any (P.loopsFrom ·)) && (c.wideKeys == (fn.params.toList ++ s.plain.varTypes P ++ fn.resultTypes.toList).any (P.wideKeysFrom ·)) && s.vars.all (P.varReadable ·) && fn.resultTypes.all (fun t => P.readableRec t && decide (t < P.types.size)) && (c.ifacesOut == fn.resultTypes.toList.any (P.ifacesRec ·)) && (c.loopsOut == fn.resultTypes.toList.any (P.loopsFrom ·)) && (c.plainKeys == P.plainKeys) && c.shortTexts.isNone && P.stopsHeard && (c.kinds == []) && (c.pinned == c.pinnedBy) && (c.veiled == (fn.params.toList ++ s.plain.varTypes P ++ fn.resultTypes.toList).any (P.veiledRec ·)) && c.veiledFits P fn.params.toList (fn.params.toList ++ s.plain.varTypes P ++ fn.resultTypes.toList)
theorem joined_of (P : Program) (f : FuncId) (fn : Func) (s : ChangeSpec) (c : OpenClaim) (e : P.mayEnter = true) (l : (c.lifted == P.liftsFinal) = true) (m : (P.make == some c.make) = true) (hd : c.domain.isEmpty = true) (rest : restFacts P f fn s c = true) : joinedFacts P f fn s c = true := by
  unfold joinedFacts
  rw [e, l, m, if_pos hd]
  simpa only [Bool.and_true, restFacts] using rest
end Go.Proofs.YtjbnclfbkccieaaGreatDoor
namespace Go.Proofs.YtjbnclfbkccieaaGreatDoor
open Go.ChangeShapes Go.WideShapes Go.ChangeAt Go.RowKit Go.Joins
theorem Tryz.cells_int : Tryz.prog.cellsOf 3 = 1 := by kernel_rfl
section
variable {H : Type} {enc : TypeId × Value → H} {W : World}
set_option maxRecDepth 20000 in
theorem ints_arg {base : Nat} {v : Value} {d : DataW H} {p : List MemPlace}
    (hval : Value.okWide Tryz.prog W .any base 28 v) (h : DataW.Trod enc Tryz.prog W 0 (fun _ => true) true 28 v d p) (hlt : ∀ x ∈ p, x.block < W.heap.size) :
    ∃ A n c zs, v = .slice A n c ∧ ISl W A n c zs := by
  obtain ⟨a0, len0, cap0, rfl⟩ := okWide_slice Tryz.underlying28 hval
  obtain ⟨fuel, hf⟩ := h
  rcases open_ints Tryz.underlying28 Tryz.underlying3 Tryz.cells_int hf with ⟨hcs, hx⟩ | ⟨a, len, cap, zs, hcs, _, hl, hm, hz, hx, hcell, hwz⟩
  · simp [Value.cells] at hcs
    obtain ⟨rfl, rfl, rfl⟩ := hcs
    exact ⟨none, 0, 0, [], rfl, rfl, Nat.le_refl _, by decide, fun k hk => absurd hk (Nat.not_lt_zero k), fun z hz => by cases hz⟩
  · simp [Value.cells] at hcs
    obtain ⟨rfl, rfl, rfl⟩ := hcs
    simp only [if_true] at hz
    unfold maxLen at hm
    refine ⟨some a, len0, cap0, zs.take len0, rfl, ?_, hl, by omega, fun k hk => ⟨a, rfl, ?_, ?_⟩, fun z hz' => i64_bounds (hwz z (List.mem_of_mem_take hz'))⟩
    · rw [List.length_take]; omega
    · injection hx with hx1 hx2
      have hin : MemPlace.cell a.block a.off ∈ p := by
        rw [hx2]
        exact MemPlace.mem_row.2 ⟨0, by omega, by simp⟩
      exact hlt _ hin
    · rw [hcell k (by omega), List.getD_eq_getElem?_getD, List.getD_eq_getElem?_getD, List.getElem?_take, if_pos hk]
end
end Go.Proofs.YtjbnclfbkccieaaGreatDoor
namespace Go.Proofs.YtjbnclfbkccieaaGreatDoor
open Go.ChangeShapes Go.WideShapes Go.ChangeAt Go.RowKit Go.Joins
def laidU {H : Type} : List (String × DataW H) := [("math/bits.deBruijn32tab", Rows.laid_math_bits_deBruijn32tab), ("math/bits.deBruijn64tab", Rows.laid_math_bits_deBruijn64tab), ("internal/strconv.uint64pow10", Rows.laid_internal_strconv_uint64pow10)]
theorem door_met (os : Os) (args : Array Value) : laidMetH Tryz.prog laidU ((World.doorLaid Tryz.prog 400 os).forCall (fun _ _ => 0) ⟨#[], args, []⟩).memory :=
  laidMetH_of_parts3 (fuel := 8) (laidMet_of_run' 8 (by kernel_rfl) (by kernel_rfl)) (by kernel_rfl) (by kernel_rfl)
/-- What the cards ask of the program, once. -/
theorem main_is : Tryz.prog.mainIs = some (true, ("92c791da22ca6296223053700614f65f0185ee7727ff9ea7f0cf8020e5fdb216" : String).toList) := by
  unfold Program.mainIs
  rw [head_chars]
  kernel_rfl
theorem looks_so : true = Tryz.prog.looks [] := by kernel_rfl
end Go.Proofs.YtjbnclfbkccieaaGreatDoor
