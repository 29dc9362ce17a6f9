/-
  Stage 2: the expansion of the continued fraction, for any two ends: its course, what it hands back, that this is the least. Stage 2: the comparison of rationals whose products are too long: by continued fractions. Stage 2: Cmp of two valid rationals, also where the products are too long: the sign of the difference. Stage 2: the expansion of the continued fraction for any two ends, whether its last convergent fits or not. Stage 2: the parts of the reference's continued fraction between two fractions, and what their fold yields: the least terms. Stage 2: the reference's Ints, where both numbers 
-/
import Derived.Deep.LoopGhost
import Derived.Test.YtjbnclfbkccieaaGreatDoorRatU
import Derived.Test.YtjbnclfbkccieaaGreatDoorLate
import Derived.Test.YtjbnclfbkccieaaGreatDoorBaseA
namespace Go.Proofs.YtjbnclfbkccieaaGreatDoor
open Go.RowKit
/-- A step of the expansion. -/
def Ex.qt (x : Ex) : Int := x.n / x.d
def Ex.rs (x : Ex) : Int := x.n % x.d
def Ex.ab (x : Ex) : Int := x.m - x.qt * x.f
def Ex.next (x : Ex) : Ex := ⟨x.f, x.ab, x.d, x.rs, x.r, x.s, x.qt * x.r + x.p, x.qt * x.s + x.q⟩
def Ex.at (x : Ex) : Nat → Ex
  | 0 => x
  | k + 1 => (x.at k).next
/-- T / U lies strictly between both ends. -/
structure Btw (x : Ex) (T U : Int) : Prop where
  u : 0 < U
  lo : x.n * U < T * x.d
  hi : T * x.f < x.m * U
structure Inv (x : Ex) : Prop where
  n0 : 0 ≤ x.n
  d0 : 0 < x.d
  m0 : 0 ≤ x.m
  f0 : 0 ≤ x.f
  lt : x.n * x.f < x.m * x.d
  p0 : 0 ≤ x.p
  q0 : 0 ≤ x.q
  r0 : 0 ≤ x.r
  s0 : 0 ≤ x.s
  pq : 1 ≤ x.p + x.q
  rs : 1 ≤ x.r + x.s
  nb : x.n.natAbs < BIG
  db : x.d.natAbs < BIG
  mb : x.m.natAbs < BIG
  fb : x.f.natAbs < BIG
  b1 : (x.r * x.n + x.p * x.d).natAbs < BIG
  b2 : (x.s * x.n + x.q * x.d).natAbs < BIG
  b3 : (x.r * x.m + x.p * x.f).natAbs < BIG
  b4 : (x.s * x.m + x.q * x.f).natAbs < BIG
  det : x.r * x.q - x.p * x.s = 1 ∨ x.r * x.q - x.p * x.s = -1
section
variable {x : Ex}
theorem Ex.div (h : 0 < x.d) : x.d * x.qt + x.rs = x.n ∧ 0 ≤ x.rs ∧ x.rs < x.d := ⟨Int.mul_ediv_add_emod _ _, Int.emod_nonneg _ (by omega), Int.emod_lt_of_pos _ h⟩
theorem Inv.qt0 (h : Inv x) : 0 ≤ x.qt := Int.ediv_nonneg h.n0 (Int.le_of_lt h.d0)
theorem Inv.qtf (h : Inv x) : x.qt * x.f < x.m := by
  have e := Ex.div h.d0
  have a : x.d * (x.qt * x.f) ≤ x.n * x.f := by
    have k : (x.d * x.qt) * x.f ≤ x.n * x.f := Int.mul_le_mul_of_nonneg_right (by omega) h.f0
    rwa [Int.mul_assoc] at k
  have b : x.d * (x.qt * x.f) < x.d * x.m := by have := h.lt; rw [Int.mul_comm x.d x.m]; omega
  exact Int.lt_of_mul_lt_mul_left b (Int.le_of_lt h.d0)
theorem Inv.ab0 (h : Inv x) : 0 < x.ab := by have := h.qtf; unfold Ex.ab; omega
theorem nat_lt {a b : Int} (h0 : 0 ≤ a) (h : a ≤ b) (hb : b.natAbs < BIG) : a.natAbs < BIG := by omega
theorem Inv.next (h : Inv x) : Inv x.next := by
  have e := Ex.div h.d0
  have q0 := h.qt0
  have ab0 := h.ab0
  have qf : 0 ≤ x.qt * x.f := Int.mul_nonneg q0 h.f0
  have qr : 0 ≤ x.qt * x.r := Int.mul_nonneg q0 h.r0
  have qs : 0 ≤ x.qt * x.s := Int.mul_nonneg q0 h.s0
  have hab : x.ab = x.m - x.qt * x.f := rfl
  refine ⟨h.f0, ab0, Int.le_of_lt h.d0, e.2.1, ?_, h.r0, h.s0, ?_, ?_, h.rs, ?_, h.fb, ?_, h.db, ?_, ?_, ?_, ?_, ?_, ?_⟩
  · show x.f * x.rs < x.d * x.ab
    have k : x.d * x.ab - x.f * x.rs = x.m * x.d - x.n * x.f := by rw [hab]; have := e.1; grind
    have := h.lt
    omega
  · show 0 ≤ x.qt * x.r + x.p
    have := h.p0; omega
  · show 0 ≤ x.qt * x.s + x.q
    have := h.q0; omega
  · show 1 ≤ x.qt * x.r + x.p + (x.qt * x.s + x.q)
    have := h.pq; omega
  · show x.ab.natAbs < BIG
    exact nat_lt (Int.le_of_lt ab0) (by omega : x.ab ≤ x.m) h.mb
  · show x.rs.natAbs < BIG
    exact nat_lt e.2.1 (by omega : x.rs ≤ x.d) h.db
  · show ((x.qt * x.r + x.p) * x.f + x.r * x.ab).natAbs < BIG
    have k : (x.qt * x.r + x.p) * x.f + x.r * x.ab = x.r * x.m + x.p * x.f := by rw [hab]; grind
    rw [k]; exact h.b3
  · show ((x.qt * x.s + x.q) * x.f + x.s * x.ab).natAbs < BIG
    have k : (x.qt * x.s + x.q) * x.f + x.s * x.ab = x.s * x.m + x.q * x.f := by rw [hab]; grind
    rw [k]; exact h.b4
  · show ((x.qt * x.r + x.p) * x.d + x.r * x.rs).natAbs < BIG
    have k : (x.qt * x.r + x.p) * x.d + x.r * x.rs = x.r * x.n + x.p * x.d := by have := e.1; grind
    rw [k]; exact h.b1
  · show ((x.qt * x.s + x.q) * x.d + x.s * x.rs).natAbs < BIG
    have k : (x.qt * x.s + x.q) * x.d + x.s * x.rs = x.s * x.n + x.q * x.d := by have := e.1; grind
    rw [k]; exact h.b2
  · show (x.qt * x.r + x.p) * x.s - x.r * (x.qt * x.s + x.q) = 1 ∨ (x.qt * x.r + x.p) * x.s - x.r * (x.qt * x.s + x.q) = -1
    have k : (x.qt * x.r + x.p) * x.s - x.r * (x.qt * x.s + x.q) = -(x.r * x.q - x.p * x.s) := by grind
    rw [k]
    rcases h.det with d | d
    · right; omega
    · left; omega
theorem Inv.at (h : Inv x) : ∀ k, Inv (x.at k)
  | 0 => h
  | k + 1 => (Inv.at h k).next
/-- Where the next integer reaches the upper end, what lies between both ends moves on with them. -/
theorem Btw.next (h : Inv x) {T U : Int} (b : Btw x T U) : ∃ R : Int, T = x.qt * U + R ∧ Btw x.next U R := by
  have e := Ex.div h.d0
  have hab : x.ab = x.m - x.qt * x.f := rfl
  refine ⟨T - x.qt * U, by omega, ?_, ?_, ?_⟩
  · -- T > qt U
    have a : x.d * (x.qt * U) ≤ x.n * U := by
      have k : (x.d * x.qt) * U ≤ x.n * U := Int.mul_le_mul_of_nonneg_right (by omega) (Int.le_of_lt b.u)
      rwa [Int.mul_assoc] at k
    have c : x.d * (x.qt * U) < x.d * T := by have := b.lo; rw [Int.mul_comm x.d T]; omega
    have := Int.lt_of_mul_lt_mul_left c (Int.le_of_lt h.d0)
    omega
  · show x.f * (T - x.qt * U) < U * x.ab
    have k : U * x.ab - x.f * (T - x.qt * U) = x.m * U - T * x.f := by rw [hab]; grind
    have := b.hi
    omega
  · show U * x.rs < x.d * (T - x.qt * U)
    have k : x.d * (T - x.qt * U) - U * x.rs = T * x.d - x.n * U := by have := e.1; grind
    have := b.lo
    omega
theorem Btw.back (h : Inv x) {U R : Int} (b : Btw x.next U R) (hU : 0 < U) : Btw x (x.qt * U + R) U := by
  have e := Ex.div h.d0
  have hab : x.ab = x.m - x.qt * x.f := rfl
  have b1 : x.f * R < U * x.ab := b.lo
  have b2 : U * x.rs < x.d * R := b.hi
  refine ⟨hU, ?_, ?_⟩
  · have k : (x.qt * U + R) * x.d - x.n * U = x.d * R - U * x.rs := by have := e.1; grind
    omega
  · have k : x.m * U - (x.qt * U + R) * x.f = U * x.ab - x.f * R := by rw [hab]; grind
    omega
/-- The course ends. -/
theorem ends : ∀ (M : Nat) (x : Ex), Inv x → (x.d + x.f).toNat ≤ M → ∃ K, (∀ k, k < K → (x.at k).ab ≤ (x.at k).f) ∧ (x.at K).f < (x.at K).ab
  | 0, x, h, hM => by have := h.d0; have := h.f0; omega
  | M + 1, x, h, hM => by
    by_cases g : x.ab ≤ x.f
    · have e := Ex.div h.d0
      have h0 := h.ab0
      obtain ⟨K, k1, k2⟩ := ends M x.next h.next (by show (x.ab + x.rs).toNat ≤ M; omega)
      have sh : ∀ k, x.next.at k = x.at (k + 1) := fun k => by
        induction k with
        | zero => rfl
        | succ k ih => show (x.next.at k).next = (x.at (k + 1)).next; rw [ih]
      refine ⟨K + 1, fun k hk => ?_, by rw [← sh]; exact k2⟩
      rcases k with _ | k
      · exact g
      · rw [← sh]; exact k1 k (by omega)
    · exact ⟨0, fun k hk => absurd hk (Nat.not_lt_zero _), by show x.f < x.ab; omega⟩
end
/-- The beginning of the expansion. -/
def Ex.of (n d m f : Int) : Ex := ⟨n, d, m, f, 0, 1, 1, 0⟩
theorem Inv.of {n d m f : Int} (n0 : 0 ≤ n) (d0 : 0 < d) (f0 : 0 < f) (lt : n * f < m * d) (nb : n.natAbs < BIG) (db : d.natAbs < BIG) (mb : m.natAbs < BIG) (fb : f.natAbs < BIG) : Inv (Ex.of n d m f) := by
  have hm : 0 ≤ m := by
    have a : 0 ≤ n * f := Int.mul_nonneg n0 (Int.le_of_lt f0)
    by_cases k : m < 0
    · have := Int.mul_neg_of_neg_of_pos k d0; omega
    · omega
  exact ⟨n0, d0, hm, Int.le_of_lt f0, lt, Int.le_refl _, (by show (0 : Int) ≤ 1; decide), (by show (0 : Int) ≤ 1; decide), Int.le_refl _, (by show (1 : Int) ≤ 0 + 1; decide), (by show (1 : Int) ≤ 1 + 0; decide), nb, db, mb, fb, by show (1 * n + 0 * d).natAbs < BIG; rw [Int.one_mul, Int.zero_mul, Int.add_zero]; exact nb, by show (0 * n + 1 * d).natAbs < BIG; rw [Int.one_mul, Int.zero_mul, Int.zero_add]; exact db, by show (1 * m + 0 * f).natAbs < BIG; rw [Int.one_mul, Int.zero_mul, Int.add_zero]; exact mb, by show (0 * m + 1 * f).natAbs < BIG; rw [Int.one_mul, Int.zero_mul, Int.zero_add]; exact fb, Or.inl rfl⟩
end Go.Proofs.YtjbnclfbkccieaaGreatDoor
namespace Go.Proofs.YtjbnclfbkccieaaGreatDoor
open Go.RowKit
/-- What a round finds in memory. -/
structure ClW (w0 : World) (r : Nat) (u : Int) (n d m f : Int) (qa qb : RVal) (wr : World) : Prop where
  ba : Rb wr r qa
  bb : Rb wr (r + 1) qb
  bel : Below r w0 wr
  o1 : qa.o = some n
  o2 : qa.od = some d
  o3 : qb.o = some m
  o4 : qb.od = some f
  pd : 0 < d
  pf : 0 < f
  sg : Int.sign (n * f - m * d) = u
section
variable {w0 : World} {r : Nat} {u n d m f : Int} {qa qb : RVal} {wr wr' : World}
theorem ClW.on (h : ClW w0 r u n d m f qa qb wr) (hb : Below wr.heap.size wr wr') (hr : r ≤ wr.heap.size) : ClW w0 r u n d m f qa qb wr' :=
  ⟨h.ba.on hb, h.bb.on hb, below_chain h.bel hr hb, h.o1, h.o2, h.o3, h.o4, h.pd, h.pf, h.sg⟩
theorem ClW.drew (h : ClW w0 r u n d m f qa qb wr) : ClW w0 r u n d m f qa qb wr.drew :=
  ⟨h.ba.drew, h.bb.drew, h.bel.drew, h.o1, h.o2, h.o3, h.o4, h.pd, h.pf, h.sg⟩
theorem ClW.step (h : ClW w0 r u n d m f qa qb wr) {q1 q2 : RVal} (h1 : q1.In wr) (h2 : q2.In wr) {N1 D1 N2 D2 : Int} (o1 : q1.o = some N1) (o2 : q1.od = some D1) (o3 : q2.o = some N2) (o4 : q2.od = some D2) (p1 : 0 < D1) (p2 : 0 < D2) (hs : Int.sign (N1 * D2 - N2 * D1) = u) :
    ClW w0 r u N1 D1 N2 D2 q1 q2 (put4 (put4 wr r q1.g (.slice q1.A q1.n q1.c) q1.gd (.slice q1.Ad q1.nd q1.cd)) (r + 1) q2.g (.slice q2.A q2.n q2.c) q2.gd (.slice q2.Ad q2.nd q2.cd)) := by
  have n1 : r + 1 ≠ r := by omega
  have e1 := h.ba.put h1
  have e2 := h.bb.pass h.ba n1 q1.g (.slice q1.A q1.n q1.c) q1.gd (.slice q1.Ad q1.nd q1.cd)
  have e3 := h.ba.put_in h2 q1.g (.slice q1.A q1.n q1.c) q1.gd (.slice q1.Ad q1.nd q1.cd)
  exact ⟨e1.pass e2 n1.symm _ _ _ _, e2.put e3, below_put4 (below_put4 h.bel (by omega) _ _ _ _) (by omega) _ _ _ _, o1, o2, o3, o4, p1, p2, hs⟩
end
end Go.Proofs.YtjbnclfbkccieaaGreatDoor
namespace Go.Proofs.YtjbnclfbkccieaaGreatDoor
open Go.RowKit
end Go.Proofs.YtjbnclfbkccieaaGreatDoor
namespace Go.Proofs.YtjbnclfbkccieaaGreatDoor
open Go.RowKit
end Go.Proofs.YtjbnclfbkccieaaGreatDoor
namespace Go.Proofs.YtjbnclfbkccieaaGreatDoor
structure Sta (n d m f : Int) : Prop where
  n0 : 0 ≤ n
  d0 : 0 < d
  f0 : 0 ≤ f
  m0 : 0 < m
  lt : n * f < m * d
theorem Sta.q0 {n d m f : Int} (h : Sta n d m f) : 0 ≤ n / d := Int.ediv_nonneg h.n0 (Int.le_of_lt h.d0)
theorem Sta.eq {n d m f : Int} (h : Sta n d m f) : n = n / d * d + n % d ∧ 0 ≤ n % d ∧ n % d < d := by
  have := Int.mul_ediv_add_emod n d
  rw [Int.mul_comm] at this
  exact ⟨by omega, Int.emod_nonneg _ (by have := h.d0; omega), Int.emod_lt_of_pos _ h.d0⟩
theorem Sta.dpos {n d m f : Int} (h : Sta n d m f) : 0 < m - n / d * f := by
  obtain ⟨e, r0, r1⟩ := h.eq
  have q0 := h.q0
  have lt := h.lt
  have f0 := h.f0
  have d0 := h.d0
  generalize n / d = q at *
  generalize n % d = r at *
  have k : d * (q * f) < d * m := by
    have a : q * d * f ≤ n * f := Int.mul_le_mul_of_nonneg_right (by omega) f0
    have e1 : d * (q * f) = q * d * f := by grind
    have e2 : d * m = m * d := Int.mul_comm _ _
    omega
  have := Int.lt_of_mul_lt_mul_left k (by omega)
  omega
theorem Sta.next {n d m f : Int} (h : Sta n d m f) : Sta f (m - n / d * f) d (n % d) := by
  obtain ⟨e, r0, r1⟩ := h.eq
  refine ⟨h.f0, h.dpos, r0, h.d0, ?_⟩
  have lt := h.lt
  generalize n / d = q at *
  generalize n % d = r at *
  subst e
  have e1 : (q * d + r) * f = q * d * f + f * r := by grind
  have e2 : d * (m - q * f) = m * d - q * d * f := by grind
  omega
/-- Where it goes on the next lower end is at least 1, and f is not 0. -/
theorem Sta.goes {n d m f : Int} (h : Sta n d m f) (g : ¬ (n / d + 1) * f < m) : m - n / d * f ≤ f ∧ 1 ≤ f := by
  have m0 := h.m0
  have f0 := h.f0
  have q0 := h.q0
  have e : (n / d + 1) * f = n / d * f + f := by rw [Int.add_mul, Int.one_mul]
  refine ⟨by omega, ?_⟩
  by_cases k : f = 0
  · subst k; rw [Int.mul_zero] at g; omega
  · omega
theorem two_lt {k E : Nat} {P : Int} (h : (2 : Int) ^ k ≤ 2 * P) (hP : P < 2 ^ E) : k < E + 1 := by
  by_cases g : E + 1 ≤ k
  · have a : (2 : Nat) ^ (E + 1) ≤ 2 ^ k := Nat.pow_le_pow_right (by decide) g
    have b : ((2 ^ (E + 1) : Nat) : Int) ≤ ((2 ^ k : Nat) : Int) := Int.ofNat_le.2 a
    rw [Int.natCast_pow, Int.natCast_pow] at b
    have c : ((2 : Nat) : Int) ^ (E + 1) = ((2 : Nat) : Int) ^ E * 2 := Int.pow_succ _ _
    rw [c] at b
    have d : ((2 : Nat) : Int) = 2 := rfl
    rw [d] at b
    generalize (2 : Int) ^ E = z at *
    omega
  · omega
/-- How many parts there can be: the product of n and f is halved from the second one on. -/
structure Few (E : Nat) (P n d f : Int) (k : Nat) : Prop where
  h : n * f * 2 ^ k ≤ 2 * P
  d : (k = 0 ∧ n * f ≤ P) ∨ d ≤ n
  k : k ≤ E + 2
theorem Few.next {E : Nat} {P n d m f : Int} {k : Nat} (h : Few E P n d f k) (s : Sta n d m f) (g : ¬ (n / d + 1) * f < m) (hP : P < 2 ^ E) : Few E P f (m - n / d * f) (n % d) (k + 1) := by
  have a := s.goes g
  obtain ⟨e, r0, r1⟩ := s.eq
  have q0 := s.q0
  have n0 := s.n0
  have d0 := s.d0
  have p2 : (0 : Int) < 2 ^ k := Int.pow_pos (by decide)
  refine ⟨?_, Or.inr a.1, ?_⟩
  · rw [Int.pow_succ]
    rcases h.d with ⟨k0, kp⟩ | kd
    · subst k0
      have b : f * (n % d) ≤ f * n := Int.mul_le_mul_of_nonneg_left (by
        have := Int.mul_nonneg q0 (Int.le_of_lt d0); omega) (by omega)
      have c := h.h
      rw [Int.pow_zero] at *
      have e1 : f * (n % d) * (1 * 2) = 2 * (f * (n % d)) := by grind
      have e2 : n * f * 1 = f * n := by grind
      rw [e1]
      rw [Int.mul_comm n f] at kp
      omega
    · have q1 : 1 ≤ n / d := by
        have := Int.ediv_le_ediv d0 kd
        rwa [Int.ediv_self (by omega)] at this
      have q2 : 1 * d ≤ n / d * d := Int.mul_le_mul_of_nonneg_right q1 (by omega)
      have b : f * (2 * (n % d)) ≤ f * n := Int.mul_le_mul_of_nonneg_left (by omega) (by omega)
      have c : f * (2 * (n % d)) * 2 ^ k ≤ f * n * 2 ^ k := Int.mul_le_mul_of_nonneg_right b (by omega)
      have e1 : f * (n % d) * ((2 : Int) ^ k * 2) = f * (2 * (n % d)) * 2 ^ k := by grind
      have e2 : n * f * (2 : Int) ^ k = f * n * 2 ^ k := by grind
      have := h.h
      omega
  · rcases h.d with ⟨k0, kp⟩ | kd
    · omega
    · have b : 1 * 1 ≤ n * f := Int.mul_le_mul (by omega) a.2 (by decide) n0
      have c : 1 * 2 ^ k ≤ n * f * 2 ^ k := Int.mul_le_mul_of_nonneg_right (by omega) (by omega)
      have := h.h
      have := two_lt (by omega : (2 : Int) ^ k ≤ 2 * P) hP
      omega
end Go.Proofs.YtjbnclfbkccieaaGreatDoor
namespace Go.Proofs.YtjbnclfbkccieaaGreatDoor
open Go.RowKit
end Go.Proofs.YtjbnclfbkccieaaGreatDoor
namespace Go.Proofs.YtjbnclfbkccieaaGreatDoor
open Go.RowKit
theorem ov_same {w w' : World} {B B' n n' c c' : Nat} {A A' : Option Addr} {g g' : Bool} {xs ys : List Nat} {z : Int} (h : Sl w B A n c xs) (h' : Sl w' B' A' n' c' ys) (o : ov g xs = some z) (o' : ov g' ys = some z) : g = g' ∧ xs = ys :=
  ⟨(ov_sign o).symm.trans (ov_sign o'), uniq h.ok h'.ok (ov_parts o).1 (ov_parts o').1 ((ov_parts o).2.1.trans (ov_parts o').2.1.symm)⟩
end Go.Proofs.YtjbnclfbkccieaaGreatDoor
namespace Go.Proofs.YtjbnclfbkccieaaGreatDoor
open Go.RowKit
section
variable {q q' : RVal} {w : World}
theorem qn (n d : Int) (h : 0 < d) (hg : gcdZ n d = 1) : (Rat.divInt n d).num = n ∧ ((Rat.divInt n d).den : Int) = d := by
  have r := rv_some (rv_mk h hg)
  exact ⟨(Option.some.inj r.1).symm, (Option.some.inj r.2).symm⟩
end
end Go.Proofs.YtjbnclfbkccieaaGreatDoor
namespace Go.Proofs.YtjbnclfbkccieaaGreatDoor
open Go.RowKit
structure SaneW (w0 : World) (b1 b3 b7 b9 : Nat) (t1 t3 t9 : RVal) (g : Bool) (A : Option Addr) (n c : Nat) (xs : List Nat) (w : World) : Prop where
  f1 : Rb w b1 t1
  f2 : Rb w b3 t3
  f3 : Ba w b7 g A n c xs
  f4 : Rb w b9 t9
  f5 : Below w0.heap.size w0 w
theorem SaneW.on {w0 w w' : World} {b1 b3 b7 b9 : Nat} {t1 t3 t9 : RVal} {g : Bool} {A : Option Addr} {n c : Nat} {xs : List Nat} (h : SaneW w0 b1 b3 b7 b9 t1 t3 t9 g A n c xs w) (hb : Below w.heap.size w w') : SaneW w0 b1 b3 b7 b9 t1 t3 t9 g A n c xs w' :=
  ⟨h.f1.on hb, h.f2.on hb, h.f3.on hb, h.f4.on hb, below_chain h.f5 h.f5.size hb⟩
end Go.Proofs.YtjbnclfbkccieaaGreatDoor
namespace Go.Proofs.YtjbnclfbkccieaaGreatDoor
open Go.RowKit
set_option maxHeartbeats 400000 in
theorem rtrim_any (A : Option Addr) (n c B : Nat) (xs : List Nat) (w : World) (h : Sl w B A n c xs) :
    Calls Tryz.prog 153 #[.slice A n c] w fun e w' => (∃ k, k ≤ n ∧ e = .returned (.slice A k c) ∧ Nz (xs.take k) ∧ val (xs.take k) = val xs) ∧ w = w' := by
  have hc := h.cap
  have hr := h.reach
  have hcr := h.capr
  have hl := h.len
  go_enter Tryz.func153, Tryz.ntmps153
  go_wp2
  go_loop [0] (fun i => ∃ k : Nat, k ≤ n ∧ i = .slice A k c ∧ val (xs.take k) = val xs) (fun i => match i with | .slice _ k _ => k | _ => 0)
  case atStart => exact ⟨n, Nat.le_refl _, rfl, by rw [List.take_of_length_le (by omega)]⟩
  case round =>
    obtain ⟨k, hk, rfl, hv⟩ := hrel
    have HV := Lib.hid hv
    clear hv hl
    rcases k with _ | k
    · go_wp2
      go_ret
      exact ⟨⟨0, by omega, rfl, nz_take (.inl rfl), HV.out⟩, rfl⟩
    · obtain ⟨ad, rfl, hb, hcell⟩ := h.cell (k := k) (by omega)
      go_wp2
      · have h0 : ((lim xs k : Nat) == (0 : Int)) = true := by assumption
        go_round
        case rel => exact ⟨k, by omega, rfl, by rw [← HV.out, val_drop_last]; simpa using h0⟩
        case measure => simp
      · have h0 : ((lim xs k : Nat) == (0 : Int)) = false := by assumption
        go_ret
        exact ⟨⟨k + 1, by omega, rfl, nz_take (.inr ⟨by rw [h.len]; omega, by simpa using h0⟩), HV.out⟩, rfl⟩
/-- The relation of the reference's addition, one limb on. -/
theorem rplus_rel {w wr : World} {zr xs ys : List Nat} {g k m cy : Nat} (hlt : k < m) (hm : zr.length = m) (Hrow : Hid (Row wr g zr)) (Hok : Hid (Ok zr))
    (Hval : Hid (wv zr 0 k + 4294967296 ^ k * cy = val (xs.take k) + val (ys.take k))) (Hb : Hid (Below g w wr)) (s : Nat) (hs : s = cy + lim xs k + lim ys k) :
    Hid ((zr.set k (s % 4294967296)).length = m) ∧ Hid (Row (wr.setCell ⟨g, k, none⟩ (.int .u32 ((s % 4294967296 : Nat) : Int))) g (zr.set k (s % 4294967296))) ∧ Hid (Ok (zr.set k (s % 4294967296))) ∧
    Hid (wv (zr.set k (s % 4294967296)) 0 (k + 1) + 4294967296 ^ (k + 1) * (s / 4294967296) = val (xs.take (k + 1)) + val (ys.take (k + 1))) ∧
    Hid (Below g w (wr.setCell ⟨g, k, none⟩ (.int .u32 ((s % 4294967296 : Nat) : Int)))) := by
  refine ⟨by rw [Hid, List.length_set, hm], Hrow.out.set _ _, Hok.out.set _ (by omega), ?_, Hb.out.setCell (Nat.le_refl _) _⟩
  have e := wv_set_end (zs := zr) (off := 0) (k := k) (v := s % 4294967296) (by omega)
  rw [Nat.zero_add] at e
  rw [Hid, e, val_take_succ, val_take_succ, Nat.pow_succ]
  exact add_step (P := 4294967296 ^ k) (v := s % 4294967296) (c' := s / 4294967296) (c := cy) (b := lim ys k) (t := lim xs k) (by omega) Hval.out
/-- The end of an addition: what remains of the carry is 0. -/
theorem rplus_end {xs ys zr : List Nat} {n n' m cy : Nat} (hx : Ok xs) (hy : Ok ys) (lx : xs.length = n) (ly : ys.length = n') (h1 : n ≤ m) (h2 : n' ≤ m)
    (hv : wv zr 0 (m + 1) + 4294967296 ^ (m + 1) * cy = val (xs.take (m + 1)) + val (ys.take (m + 1))) : wv zr 0 (m + 1) = val xs + val ys := by
  rw [List.take_of_length_le (by omega), List.take_of_length_le (by omega)] at hv
  have a := val_lt hx
  have b := val_lt hy
  have c : 4294967296 ^ ys.length ≤ 4294967296 ^ m := Nat.pow_le_pow_right (by decide) (by omega)
  have d : 4294967296 ^ xs.length ≤ 4294967296 ^ m := Nat.pow_le_pow_right (by decide) (by omega)
  have e := add_small (Nat.lt_of_lt_of_le a d) (Nat.lt_of_lt_of_le b c)
  rw [← Nat.pow_succ] at e
  exact no_carry hv e
set_option maxHeartbeats 2000000 in
theorem rplus_any (A A' : Option Addr) (n c n' c' : Nat) (xs ys : List Nat) (w : World) (h : Sl w w.heap.size A n c xs) (h' : Sl w w.heap.size A' n' c' ys) (hn : n ≤ 1000000) (hn' : n' ≤ 1000000) :
    Calls Tryz.prog 183 #[.slice A n c, .slice A' n' c'] w (RetNum (val xs + val ys) w) := by
  by_cases hle : n < n'
  · have hle' : (n : Int) < (n' : Int) := by omega
    have hmk := make_any ((n' : Int) + 1) (n' + 1) (by omega) (by omega)
    have Hrow := Lib.hid (Row.made w (n' + 1))
    have Hb0 := Lib.hid ((Below.refl w.heap.size w).alloc (Nat.le_refl _) (.cells (zrow (n' + 1)) 44))
    have He := Lib.hid (fun (cy : Nat) (zr : List Nat) => rplus_end (zr := zr) (cy := cy) (m := n') h.ok h'.ok h.len h'.len (by omega) (by omega))
    go_enter Tryz.func183, Tryz.ntmps183
    go_wp2
    go_loopw [6, 7] (fun cv iv wr => ∃ (k cy : Nat) (zr : List Nat), k ≤ n' + 1 ∧ iv = .int .i64 k ∧ cv = .int .u64 cy ∧ cy ≤ 1 ∧ Hid (zr.length = n' + 1) ∧ Hid (Row wr w.heap.size zr) ∧ Hid (Ok zr) ∧
        Hid (wv zr 0 k + 4294967296 ^ k * cy = val (xs.take k) + val (ys.take k)) ∧ Hid (Below w.heap.size w wr)) (fun _ iv _ => n' + 1 - (intOf iv).toNat)
    case atStart => exact ⟨0, 0, List.replicate (n' + 1) 0, by omega, rfl, rfl, by omega, by rw [Hid, List.length_replicate], Hrow.out, ok_zeros _, by simp [Hid, wv, val], Hb0.out⟩
    case round =>
      obtain ⟨k, cy, zr, hk, rfl, rfl, hcy, Hlen, Hrw, Hok, Hval, Hb⟩ := hrel
      by_cases hkn : k < n' + 1
      · have hc1 := Hrw.out.cell (i := k) (by rw [Hlen.out]; exact hkn)
        have hf1 := Hrw.out.free k
        have R := Lib.hid (rplus_rel (xs := xs) (ys := ys) hkn Hlen.out Hrw Hok Hval Hb _ rfl)
        have lx := h.ok.lim k
        have ly := h'.ok.lim k
        by_cases k1 : k < n
        · obtain ⟨ad, rfl, _, hcx⟩ := (h.below Hb.out).cell k1
          by_cases k2 : k < n'
          · obtain ⟨ad', rfl, _, hcy'⟩ := (h'.below Hb.out).cell k2
            go_wp2
            rw [show Value.int .u32 ((↑cy + ↑(lim xs k) + ↑(lim ys k)) % 4294967296) = Value.int .u32 (((cy + lim xs k + lim ys k) % 4294967296 : Nat) : Int) by go_num]
            exact ⟨⟨k + 1, (cy + lim xs k + lim ys k) / 4294967296, _, by omega, by go_num, by go_num, by omega, R.out⟩, by simp [intOf]; omega⟩
          · omega
        · have Z1 := Lib.hid (sl_lim_past h (k := k) (by omega))
          rw [Z1.out, Nat.add_zero] at R
          by_cases k2 : k < n'
          · obtain ⟨ad', rfl, _, hcy'⟩ := (h'.below Hb.out).cell k2
            go_wp2
            rw [show Value.int .u32 ((↑cy + ↑(lim ys k)) % 4294967296) = Value.int .u32 (((cy + lim ys k) % 4294967296 : Nat) : Int) by go_num]
            exact ⟨⟨k + 1, (cy + lim ys k) / 4294967296, _, by omega, by go_num, by go_num, by omega, R.out⟩, by simp [intOf]; omega⟩
          · have Z2 := Lib.hid (sl_lim_past h' (k := k) (by omega))
            rw [Z2.out, Nat.add_zero] at R
            rw [show cy % 4294967296 = cy by omega] at R
            go_wp2
            exact ⟨⟨k + 1, cy / 4294967296, _, by omega, by go_num, by go_num, by omega, R.out⟩, by simp [intOf]; omega⟩
      · obtain rfl : k = n' + 1 := by omega
        have Hz := Lib.hid Hrw.out.lt
        have hsl := Hrw.out.sl (B := wr.heap.size) (n := n' + 1) (c := n' + 1) Hrw.out.lt 0 (by rw [Hlen.out]; omega) (Nat.le_refl _) (by omega) Hok.out
        rw [List.drop_zero, List.take_of_length_le (by rw [Hlen.out]; omega)] at hsl
        go_wp2_with fail
        refine (rtrim_any _ _ _ _ zr wr hsl).mono ?_
        rintro e w3 ⟨⟨k, hk, rfl, hnz, hv⟩, rfl⟩
        have HV := Lib.hid hv
        clear hv
        go_wp2
        go_ret
        exact ⟨_, _, _, _, rfl, hsl.to hk, hnz, by rw [HV.out, ← wv_all zr (show zr.length ≤ n' + 1 by rw [Hlen.out]; omega)]; exact He.out _ _ Hval.out, Hb.out⟩
  · have hle' : (n' : Int) ≤ (n : Int) := by omega
    have hmk := make_any ((n : Int) + 1) (n + 1) (by omega) (by omega)
    have Hrow := Lib.hid (Row.made w (n + 1))
    have Hb0 := Lib.hid ((Below.refl w.heap.size w).alloc (Nat.le_refl _) (.cells (zrow (n + 1)) 44))
    have He := Lib.hid (fun (cy : Nat) (zr : List Nat) => rplus_end (zr := zr) (cy := cy) (m := n) h.ok h'.ok h.len h'.len (by omega) (by omega))
    go_enter Tryz.func183, Tryz.ntmps183
    go_wp2
    go_loopw [6, 7] (fun cv iv wr => ∃ (k cy : Nat) (zr : List Nat), k ≤ n + 1 ∧ iv = .int .i64 k ∧ cv = .int .u64 cy ∧ cy ≤ 1 ∧ Hid (zr.length = n + 1) ∧ Hid (Row wr w.heap.size zr) ∧ Hid (Ok zr) ∧
        Hid (wv zr 0 k + 4294967296 ^ k * cy = val (xs.take k) + val (ys.take k)) ∧ Hid (Below w.heap.size w wr)) (fun _ iv _ => n + 1 - (intOf iv).toNat)
    case atStart => exact ⟨0, 0, List.replicate (n + 1) 0, by omega, rfl, rfl, by omega, by rw [Hid, List.length_replicate], Hrow.out, ok_zeros _, by simp [Hid, wv, val], Hb0.out⟩
    case round =>
      obtain ⟨k, cy, zr, hk, rfl, rfl, hcy, Hlen, Hrw, Hok, Hval, Hb⟩ := hrel
      by_cases hkn : k < n + 1
      · have hc1 := Hrw.out.cell (i := k) (by rw [Hlen.out]; exact hkn)
        have hf1 := Hrw.out.free k
        have R := Lib.hid (rplus_rel (xs := xs) (ys := ys) hkn Hlen.out Hrw Hok Hval Hb _ rfl)
        have lx := h.ok.lim k
        have ly := h'.ok.lim k
        by_cases k1 : k < n
        · obtain ⟨ad, rfl, _, hcx⟩ := (h.below Hb.out).cell k1
          by_cases k2 : k < n'
          · obtain ⟨ad', rfl, _, hcy'⟩ := (h'.below Hb.out).cell k2
            go_wp2
            rw [show Value.int .u32 ((↑cy + ↑(lim xs k) + ↑(lim ys k)) % 4294967296) = Value.int .u32 (((cy + lim xs k + lim ys k) % 4294967296 : Nat) : Int) by go_num]
            exact ⟨⟨k + 1, (cy + lim xs k + lim ys k) / 4294967296, _, by omega, by go_num, by go_num, by omega, R.out⟩, by simp [intOf]; omega⟩
          · have Z2 := Lib.hid (sl_lim_past h' (k := k) (by omega))
            rw [Z2.out, Nat.add_zero] at R
            go_wp2
            rw [show Value.int .u32 ((↑cy + ↑(lim xs k)) % 4294967296) = Value.int .u32 (((cy + lim xs k) % 4294967296 : Nat) : Int) by go_num]
            exact ⟨⟨k + 1, (cy + lim xs k) / 4294967296, _, by omega, by go_num, by go_num, by omega, R.out⟩, by simp [intOf]; omega⟩
        · have Z1 := Lib.hid (sl_lim_past h (k := k) (by omega))
          rw [Z1.out, Nat.add_zero] at R
          by_cases k2 : k < n'
          · omega
          · have Z2 := Lib.hid (sl_lim_past h' (k := k) (by omega))
            rw [Z2.out, Nat.add_zero] at R
            rw [show cy % 4294967296 = cy by omega] at R
            go_wp2
            exact ⟨⟨k + 1, cy / 4294967296, _, by omega, by go_num, by go_num, by omega, R.out⟩, by simp [intOf]; omega⟩
      · obtain rfl : k = n + 1 := by omega
        have Hz := Lib.hid Hrw.out.lt
        have hsl := Hrw.out.sl (B := wr.heap.size) (n := n + 1) (c := n + 1) Hrw.out.lt 0 (by rw [Hlen.out]; omega) (Nat.le_refl _) (by omega) Hok.out
        rw [List.drop_zero, List.take_of_length_le (by rw [Hlen.out]; omega)] at hsl
        go_wp2_with fail
        refine (rtrim_any _ _ _ _ zr wr hsl).mono ?_
        rintro e w3 ⟨⟨k, hk, rfl, hnz, hv⟩, rfl⟩
        have HV := Lib.hid hv
        clear hv
        go_wp2
        go_ret
        exact ⟨_, _, _, _, rfl, hsl.to hk, hnz, by rw [HV.out, ← wv_all zr (show zr.length ≤ n + 1 by rw [Hlen.out]; omega)]; exact He.out _ _ Hval.out, Hb.out⟩
end Go.Proofs.YtjbnclfbkccieaaGreatDoor
