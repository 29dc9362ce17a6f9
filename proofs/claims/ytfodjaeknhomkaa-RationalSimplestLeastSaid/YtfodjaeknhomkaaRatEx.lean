/-
  Stage 2: the expansion of the continued fraction, for any two ends: its course, what it hands back, that this is the least.
-/
import Derived.Test.YtfodjaeknhomkaaRatU
namespace Go.Proofs.Ytfodjaeknhomkaa
open Go.RowKit
/-- A step of the expansion. -/
def Ex.qt (x : Ex) : Int := x.n / x.d
def Ex.rs (x : Ex) : Int := x.n % x.d
def Ex.ab (x : Ex) : Int := x.m - x.qt * x.f
def Ex.next (x : Ex) : Ex := ⟨x.f, x.ab, x.d, x.rs, x.r, x.s, x.qt * x.r + x.p, x.qt * x.s + x.q⟩
def Ex.at (x : Ex) : Nat → Ex
  | 0 => x
  | k + 1 => (x.at k).next
/-- T / U lies strictly between both ends. -/
structure Btw (x : Ex) (T U : Int) : Prop where
  u : 0 < U
  lo : x.n * U < T * x.d
  hi : T * x.f < x.m * U
structure Inv (x : Ex) : Prop where
  n0 : 0 ≤ x.n
  d0 : 0 < x.d
  m0 : 0 ≤ x.m
  f0 : 0 ≤ x.f
  lt : x.n * x.f < x.m * x.d
  p0 : 0 ≤ x.p
  q0 : 0 ≤ x.q
  r0 : 0 ≤ x.r
  s0 : 0 ≤ x.s
  pq : 1 ≤ x.p + x.q
  rs : 1 ≤ x.r + x.s
  nb : x.n.natAbs < BIG
  db : x.d.natAbs < BIG
  mb : x.m.natAbs < BIG
  fb : x.f.natAbs < BIG
  b1 : (x.r * x.n + x.p * x.d).natAbs < BIG
  b2 : (x.s * x.n + x.q * x.d).natAbs < BIG
  b3 : (x.r * x.m + x.p * x.f).natAbs < BIG
  b4 : (x.s * x.m + x.q * x.f).natAbs < BIG
  det : x.r * x.q - x.p * x.s = 1 ∨ x.r * x.q - x.p * x.s = -1
section
variable {x : Ex}
theorem Ex.div (h : 0 < x.d) : x.d * x.qt + x.rs = x.n ∧ 0 ≤ x.rs ∧ x.rs < x.d := ⟨Int.mul_ediv_add_emod _ _, Int.emod_nonneg _ (by omega), Int.emod_lt_of_pos _ h⟩
theorem Inv.qt0 (h : Inv x) : 0 ≤ x.qt := Int.ediv_nonneg h.n0 (Int.le_of_lt h.d0)
theorem Inv.qtf (h : Inv x) : x.qt * x.f < x.m := by
  have e := Ex.div h.d0
  have a : x.d * (x.qt * x.f) ≤ x.n * x.f := by
    have k : (x.d * x.qt) * x.f ≤ x.n * x.f := Int.mul_le_mul_of_nonneg_right (by omega) h.f0
    rwa [Int.mul_assoc] at k
  have b : x.d * (x.qt * x.f) < x.d * x.m := by have := h.lt; rw [Int.mul_comm x.d x.m]; omega
  exact Int.lt_of_mul_lt_mul_left b (Int.le_of_lt h.d0)
theorem Inv.ab0 (h : Inv x) : 0 < x.ab := by have := h.qtf; unfold Ex.ab; omega
theorem nat_lt {a b : Int} (h0 : 0 ≤ a) (h : a ≤ b) (hb : b.natAbs < BIG) : a.natAbs < BIG := by omega
theorem Inv.next (h : Inv x) : Inv x.next := by
  have e := Ex.div h.d0
  have q0 := h.qt0
  have ab0 := h.ab0
  have qf : 0 ≤ x.qt * x.f := Int.mul_nonneg q0 h.f0
  have qr : 0 ≤ x.qt * x.r := Int.mul_nonneg q0 h.r0
  have qs : 0 ≤ x.qt * x.s := Int.mul_nonneg q0 h.s0
  have hab : x.ab = x.m - x.qt * x.f := rfl
  refine ⟨h.f0, ab0, Int.le_of_lt h.d0, e.2.1, ?_, h.r0, h.s0, ?_, ?_, h.rs, ?_, h.fb, ?_, h.db, ?_, ?_, ?_, ?_, ?_, ?_⟩
  · show x.f * x.rs < x.d * x.ab
    have k : x.d * x.ab - x.f * x.rs = x.m * x.d - x.n * x.f := by rw [hab]; have := e.1; grind
    have := h.lt
    omega
  · show 0 ≤ x.qt * x.r + x.p
    have := h.p0; omega
  · show 0 ≤ x.qt * x.s + x.q
    have := h.q0; omega
  · show 1 ≤ x.qt * x.r + x.p + (x.qt * x.s + x.q)
    have := h.pq; omega
  · show x.ab.natAbs < BIG
    exact nat_lt (Int.le_of_lt ab0) (by omega : x.ab ≤ x.m) h.mb
  · show x.rs.natAbs < BIG
    exact nat_lt e.2.1 (by omega : x.rs ≤ x.d) h.db
  · show ((x.qt * x.r + x.p) * x.f + x.r * x.ab).natAbs < BIG
    have k : (x.qt * x.r + x.p) * x.f + x.r * x.ab = x.r * x.m + x.p * x.f := by rw [hab]; grind
    rw [k]; exact h.b3
  · show ((x.qt * x.s + x.q) * x.f + x.s * x.ab).natAbs < BIG
    have k : (x.qt * x.s + x.q) * x.f + x.s * x.ab = x.s * x.m + x.q * x.f := by rw [hab]; grind
    rw [k]; exact h.b4
  · show ((x.qt * x.r + x.p) * x.d + x.r * x.rs).natAbs < BIG
    have k : (x.qt * x.r + x.p) * x.d + x.r * x.rs = x.r * x.n + x.p * x.d := by have := e.1; grind
    rw [k]; exact h.b1
  · show ((x.qt * x.s + x.q) * x.d + x.s * x.rs).natAbs < BIG
    have k : (x.qt * x.s + x.q) * x.d + x.s * x.rs = x.s * x.n + x.q * x.d := by have := e.1; grind
    rw [k]; exact h.b2
  · show (x.qt * x.r + x.p) * x.s - x.r * (x.qt * x.s + x.q) = 1 ∨ (x.qt * x.r + x.p) * x.s - x.r * (x.qt * x.s + x.q) = -1
    have k : (x.qt * x.r + x.p) * x.s - x.r * (x.qt * x.s + x.q) = -(x.r * x.q - x.p * x.s) := by grind
    rw [k]
    rcases h.det with d | d
    · right; omega
    · left; omega
theorem Inv.at (h : Inv x) : ∀ k, Inv (x.at k)
  | 0 => h
  | k + 1 => (Inv.at h k).next
/-- Where the next integer reaches the upper end, what lies between both ends moves on with them. -/
theorem Btw.next (h : Inv x) {T U : Int} (b : Btw x T U) : ∃ R : Int, T = x.qt * U + R ∧ Btw x.next U R := by
  have e := Ex.div h.d0
  have hab : x.ab = x.m - x.qt * x.f := rfl
  refine ⟨T - x.qt * U, by omega, ?_, ?_, ?_⟩
  · -- T > qt U
    have a : x.d * (x.qt * U) ≤ x.n * U := by
      have k : (x.d * x.qt) * U ≤ x.n * U := Int.mul_le_mul_of_nonneg_right (by omega) (Int.le_of_lt b.u)
      rwa [Int.mul_assoc] at k
    have c : x.d * (x.qt * U) < x.d * T := by have := b.lo; rw [Int.mul_comm x.d T]; omega
    have := Int.lt_of_mul_lt_mul_left c (Int.le_of_lt h.d0)
    omega
  · show x.f * (T - x.qt * U) < U * x.ab
    have k : U * x.ab - x.f * (T - x.qt * U) = x.m * U - T * x.f := by rw [hab]; grind
    have := b.hi
    omega
  · show U * x.rs < x.d * (T - x.qt * U)
    have k : x.d * (T - x.qt * U) - U * x.rs = T * x.d - x.n * U := by have := e.1; grind
    have := b.lo
    omega
theorem Btw.back (h : Inv x) {U R : Int} (b : Btw x.next U R) (hU : 0 < U) : Btw x (x.qt * U + R) U := by
  have e := Ex.div h.d0
  have hab : x.ab = x.m - x.qt * x.f := rfl
  have b1 : x.f * R < U * x.ab := b.lo
  have b2 : U * x.rs < x.d * R := b.hi
  refine ⟨hU, ?_, ?_⟩
  · have k : (x.qt * U + R) * x.d - x.n * U = x.d * R - U * x.rs := by have := e.1; grind
    omega
  · have k : x.m * U - (x.qt * U + R) * x.f = U * x.ab - x.f * R := by rw [hab]; grind
    omega
/-- The course ends. -/
theorem ends : ∀ (M : Nat) (x : Ex), Inv x → (x.d + x.f).toNat ≤ M → ∃ K, (∀ k, k < K → (x.at k).ab ≤ (x.at k).f) ∧ (x.at K).f < (x.at K).ab
  | 0, x, h, hM => by have := h.d0; have := h.f0; omega
  | M + 1, x, h, hM => by
    by_cases g : x.ab ≤ x.f
    · have e := Ex.div h.d0
      have h0 := h.ab0
      obtain ⟨K, k1, k2⟩ := ends M x.next h.next (by show (x.ab + x.rs).toNat ≤ M; omega)
      have sh : ∀ k, x.next.at k = x.at (k + 1) := fun k => by
        induction k with
        | zero => rfl
        | succ k ih => show (x.next.at k).next = (x.at (k + 1)).next; rw [ih]
      refine ⟨K + 1, fun k hk => ?_, by rw [← sh]; exact k2⟩
      rcases k with _ | k
      · exact g
      · rw [← sh]; exact k1 k (by omega)
    · exact ⟨0, fun k hk => absurd hk (Nat.not_lt_zero _), by show x.f < x.ab; omega⟩
/-- What lies between the ends, step by step. -/
theorem btw_at (h : Inv x) {T U : Int} (b : Btw x T U) : ∀ k, (∀ j, j < k → (x.at j).ab ≤ (x.at j).f) → ∃ T' U', Btw (x.at k) T' U' ∧ (x.at k).r * T' + (x.at k).p * U' = x.r * T + x.p * U ∧ (x.at k).s * T' + (x.at k).q * U' = x.s * T + x.q * U
  | 0, _ => ⟨T, U, b, rfl, rfl⟩
  | k + 1, hk => by
    obtain ⟨T', U', b', e1, e2⟩ := btw_at h b k (fun j hj => hk j (by omega))
    obtain ⟨R, eT, bn⟩ := b'.next (h.at k)
    refine ⟨U', R, bn, ?_, ?_⟩
    · show ((x.at k).qt * (x.at k).r + (x.at k).p) * U' + (x.at k).r * R = _
      rw [← e1, eT]; grind
    · show ((x.at k).qt * (x.at k).s + (x.at k).q) * U' + (x.at k).s * R = _
      rw [← e2, eT]; grind
theorem btw_back (h : Inv x) : ∀ k {T' U' : Int}, Btw (x.at k) T' U' → 0 < T' → ∃ T U, Btw x T U ∧ x.r * T + x.p * U = (x.at k).r * T' + (x.at k).p * U' ∧ x.s * T + x.q * U = (x.at k).s * T' + (x.at k).q * U'
  | 0, T', U', b, _ => ⟨T', U', b, rfl, rfl⟩
  | k + 1, T', U', b, hT => by
    have b' := Btw.back (h.at k) (U := T') (R := U') b hT
    have hpos : 0 < (x.at k).qt * T' + U' := by have := Int.mul_nonneg (h.at k).qt0 (Int.le_of_lt hT); have := b.u; omega
    obtain ⟨T, U, b2, e1, e2⟩ := btw_back h k b' hpos
    refine ⟨T, U, b2, ?_, ?_⟩
    · rw [e1]
      show _ = ((x.at k).qt * (x.at k).r + (x.at k).p) * T' + (x.at k).r * U'
      grind
    · rw [e2]
      show _ = ((x.at k).qt * (x.at k).s + (x.at k).q) * T' + (x.at k).s * U'
      grind
theorem Inv.exR (h : Inv x) : ExR x x.qt x.rs x.ab := by
  have e := Ex.div h.d0
  have q0 := h.qt0
  have qf : 0 ≤ x.qt * x.f := Int.mul_nonneg q0 h.f0
  have lt := h.qtf
  have h0 := h.ab0
  have f1 := fit_yes (nat_lt qf (Int.le_of_lt lt) h.mb)
  have hab : x.m - x.qt * x.f = x.ab := rfl
  have f2 := fit_yes (nat_lt (Int.le_of_lt h0) (by omega : x.ab ≤ x.m) h.mb)
  have dn : x.d ≠ 0 := by have := h.d0; omega
  have fm := fq_pos x.n x.d h.d0
  have sp := (fq_spec x.n x.d dn).1
  refine ⟨by rw [dvQ_some, if_neg dn, fm]; rfl, ?_, ?_, ?_, f1.1, f1.2, by rw [hab]; exact f2.1, by rw [hab]; exact f2.2⟩
  · rw [dvR_some, if_neg dn]
    rw [fm] at sp
    have := Int.emod_add_mul_ediv x.n x.d
    rw [Int.mul_comm] at sp
    show fr x.n x.d = x.n % x.d
    omega
  · exact Nat.lt_of_le_of_lt (Int.natAbs_ediv_le_natAbs _ _) h.nb
  · exact nat_lt e.2.1 (by omega : x.rs ≤ x.d) h.db
theorem Inv.exS (h : Inv x) (g : x.ab ≤ x.f) : ExS x x.next x.qt x.rs x.ab := by
  have q0 := h.qt0
  have qr : 0 ≤ x.qt * x.r := Int.mul_nonneg q0 h.r0
  have qs : 0 ≤ x.qt * x.s := Int.mul_nonneg q0 h.s0
  have n := h.next
  have c1 : (x.qt * x.r + x.p).natAbs < BIG := by
    have b := n.b3
    have k : (x.qt * x.r + x.p) ≤ (x.qt * x.r + x.p) * x.d + x.r * x.rs := by
      have k1 : (x.qt * x.r + x.p) * 1 ≤ (x.qt * x.r + x.p) * x.d := Int.mul_le_mul_of_nonneg_left (by have := h.d0; omega) (by have := h.p0; omega)
      have k2 : 0 ≤ x.r * x.rs := Int.mul_nonneg h.r0 (Ex.div h.d0).2.1
      omega
    exact nat_lt (by have := h.p0; omega) k b
  have c2 : (x.qt * x.s + x.q).natAbs < BIG := by
    have b := n.b4
    have k : (x.qt * x.s + x.q) ≤ (x.qt * x.s + x.q) * x.d + x.s * x.rs := by
      have k1 : (x.qt * x.s + x.q) * 1 ≤ (x.qt * x.s + x.q) * x.d := Int.mul_le_mul_of_nonneg_left (by have := h.d0; omega) (by have := h.q0; omega)
      have k2 : 0 ≤ x.s * x.rs := Int.mul_nonneg h.s0 (Ex.div h.d0).2.1
      omega
    exact nat_lt (by have := h.q0; omega) k b
  have d1 := fit_yes (nat_lt qr (by have := h.p0; omega : x.qt * x.r ≤ x.qt * x.r + x.p) c1)
  have d2 := fit_yes (nat_lt qs (by have := h.q0; omega : x.qt * x.s ≤ x.qt * x.s + x.q) c2)
  refine ⟨?_, d1.1, d1.2, (fit_yes c1).1, (fit_yes c1).2, d2.1, d2.2, (fit_yes c2).1, (fit_yes c2).2, rfl, rfl, rfl, rfl, rfl, rfl⟩
  rw [decide_eq_false_iff_not]
  intro k
  have := Int.sign_nonneg_iff.2 (by omega : 0 ≤ x.f - x.ab)
  omega
end
/-- The beginning of the expansion. -/
def Ex.of (n d m f : Int) : Ex := ⟨n, d, m, f, 0, 1, 1, 0⟩
theorem Inv.of {n d m f : Int} (n0 : 0 ≤ n) (d0 : 0 < d) (f0 : 0 < f) (lt : n * f < m * d) (nb : n.natAbs < BIG) (db : d.natAbs < BIG) (mb : m.natAbs < BIG) (fb : f.natAbs < BIG) : Inv (Ex.of n d m f) := by
  have hm : 0 ≤ m := by
    have a : 0 ≤ n * f := Int.mul_nonneg n0 (Int.le_of_lt f0)
    by_cases k : m < 0
    · have := Int.mul_neg_of_neg_of_pos k d0; omega
    · omega
  exact ⟨n0, d0, hm, Int.le_of_lt f0, lt, Int.le_refl _, (by show (0 : Int) ≤ 1; decide), (by show (0 : Int) ≤ 1; decide), Int.le_refl _, (by show (1 : Int) ≤ 0 + 1; decide), (by show (1 : Int) ≤ 1 + 0; decide), nb, db, mb, fb, by show (1 * n + 0 * d).natAbs < BIG; rw [Int.one_mul, Int.zero_mul, Int.add_zero]; exact nb, by show (0 * n + 1 * d).natAbs < BIG; rw [Int.one_mul, Int.zero_mul, Int.zero_add]; exact db, by show (1 * m + 0 * f).natAbs < BIG; rw [Int.one_mul, Int.zero_mul, Int.add_zero]; exact mb, by show (0 * m + 1 * f).natAbs < BIG; rw [Int.one_mul, Int.zero_mul, Int.zero_add]; exact fb, Or.inl rfl⟩
/-- The expansion, where some number between both ends is not too big: the number with the least terms between them. -/
theorem expand_any {n d m f T U : Int} (n0 : 0 ≤ n) (d0 : 0 < d) (f0 : 0 < f) (lt : n * f < m * d) (nb : n.natAbs < BIG) (db : d.natAbs < BIG) (mb : m.natAbs < BIG) (fb : f.natAbs < BIG) (u0 : 0 < U) (lo : n * U < T * d) (hi : T * f < m * U) (tb : T.natAbs < BIG) (ub : U.natAbs < BIG) :
    ∃ N D : Int, gcdZ N D = 1 ∧ 0 < D ∧ n * D < N * d ∧ N * f < m * D ∧ (∀ T U : Int, 0 < U → n * U < T * d → T * f < m * U → N ≤ T ∧ D ≤ U) ∧
      ∀ (q q' : RVal) (w : World), q.In w → q'.In w → q.o = some n → q.od = some d → q'.o = some m → q'.od = some f → Calls Try.prog 19 #[.agg #[.bool q.g, .slice q.A q.n q.c, .bool q.gd, .slice q.Ad q.nd q.cd], .agg #[.bool q'.g, .slice q'.A q'.n q'.c, .bool q'.gd, .slice q'.Ad q'.nd q'.cd]] w (RetR N D 0 w) := by
  have h := Inv.of n0 d0 f0 lt nb db mb fb
  obtain ⟨K, k1, k2⟩ := ends _ (Ex.of n d m f) h (Nat.le_refl _)
  have hK := h.at K
  generalize hx : (Ex.of n d m f).at K = x at *
  have e := Ex.div hK.d0
  have q0 := hK.qt0
  have hab : x.ab = x.m - x.qt * x.f := rfl
  have least : ∀ T U : Int, 0 < U → n * U < T * d → T * f < m * U → x.qt + 1 ≤ max T 0 + x.qt + 1 ∧ ∃ T' U' : Int, x.qt + 1 ≤ T' ∧ 1 ≤ U' ∧ x.r * T' + x.p * U' = T ∧ x.s * T' + x.q * U' = U := by
    intro T U u0 lo hi
    obtain ⟨T', U', b, e1, e2⟩ := btw_at h (T := T) (U := U) ⟨u0, lo, hi⟩ K k1
    rw [hx] at b e1 e2
    refine ⟨by omega, T', U', ?_, by have := b.u; omega, ?_, ?_⟩
    · have a : x.d * (x.qt * U') ≤ x.n * U' := by
        have k : (x.d * x.qt) * U' ≤ x.n * U' := Int.mul_le_mul_of_nonneg_right (by omega) (Int.le_of_lt b.u)
        rwa [Int.mul_assoc] at k
      have c : x.d * (x.qt * U') < x.d * T' := by have := b.lo; rw [Int.mul_comm x.d T']; omega
      have c2 := Int.lt_of_mul_lt_mul_left c (Int.le_of_lt hK.d0)
      have c3 : x.qt * 1 ≤ x.qt * U' := Int.mul_le_mul_of_nonneg_left (by have := b.u; omega) q0
      omega
    · rw [e1]; show 1 * T + 0 * U = T; omega
    · rw [e2]; show 0 * T + 1 * U = U; omega
  have small : ∀ T U : Int, 0 < U → n * U < T * d → T * f < m * U → (x.qt + 1) * x.r + x.p ≤ T ∧ (x.qt + 1) * x.s + x.q ≤ U ∧ (x.qt + 1 ≤ T ∨ x.qt + 1 ≤ U) := by
    intro T U u0 lo hi
    obtain ⟨_, T', U', h1, h2, e1, e2⟩ := least T U u0 lo hi
    have a1 : (x.qt + 1) * x.r ≤ T' * x.r := Int.mul_le_mul_of_nonneg_right h1 hK.r0
    have a2 : x.p * 1 ≤ x.p * U' := Int.mul_le_mul_of_nonneg_left h2 hK.p0
    have a3 : (x.qt + 1) * x.s ≤ T' * x.s := Int.mul_le_mul_of_nonneg_right h1 hK.s0
    have a4 : x.q * 1 ≤ x.q * U' := Int.mul_le_mul_of_nonneg_left h2 hK.q0
    rw [Int.mul_comm T' x.r] at a1
    rw [Int.mul_comm T' x.s] at a3
    refine ⟨by omega, by omega, ?_⟩
    have hp := hK.p0
    have hq := hK.q0
    have hpu : 0 ≤ x.p * U' := Int.mul_nonneg hp (by omega)
    have hqu : 0 ≤ x.q * U' := Int.mul_nonneg hq (by omega)
    by_cases r1 : 1 ≤ x.r
    · left
      have : 1 * T' ≤ x.r * T' := Int.mul_le_mul_of_nonneg_right r1 (by omega)
      omega
    · right
      have s1 : 1 ≤ x.s := by have := hK.rs; omega
      have : 1 * T' ≤ x.s * T' := Int.mul_le_mul_of_nonneg_right s1 (by omega)
      omega
  have sm := small T U u0 lo hi
  have z0 : 0 ≤ (x.qt + 1) * x.r := Int.mul_nonneg (by omega) hK.r0
  have z1 : 0 ≤ (x.qt + 1) * x.s := Int.mul_nonneg (by omega) hK.s0
  have hp := hK.p0
  have hq := hK.q0
  have bN : ((x.qt + 1) * x.r + x.p).natAbs < BIG := by omega
  have bD : ((x.qt + 1) * x.s + x.q).natAbs < BIG := by omega
  have bz : (x.qt + 1).natAbs < BIG := by rcases sm.2.2 with k | k <;> omega
  have bu1 : ((x.qt + 1) * x.r).natAbs < BIG := by omega
  have bu2 : ((x.qt + 1) * x.s).natAbs < BIG := by omega
  have bt : Btw x (x.qt + 1) 1 := by
    refine ⟨by decide, ?_, ?_⟩
    · have : (x.qt + 1) * x.d = x.d * x.qt + x.d := by rw [Int.add_mul, Int.one_mul, Int.mul_comm]
      omega
    · have : (x.qt + 1) * x.f = x.qt * x.f + x.f := by rw [Int.add_mul, Int.one_mul]
      omega
  obtain ⟨T1, U1, b1, e1, e2⟩ := btw_back h K (T' := x.qt + 1) (U' := 1) (by rw [hx]; exact bt) (by omega)
  rw [hx] at e1 e2
  have hT1 : T1 = (x.qt + 1) * x.r + x.p := by
    have : 1 * T1 + 0 * U1 = x.r * (x.qt + 1) + x.p * 1 := e1
    rw [Int.mul_comm x.r] at this; omega
  have hU1 : U1 = (x.qt + 1) * x.s + x.q := by
    have : 0 * T1 + 1 * U1 = x.s * (x.qt + 1) + x.q * 1 := e2
    rw [Int.mul_comm x.s] at this; omega
  subst hT1
  subst hU1
  refine ⟨(x.qt + 1) * x.r + x.p, (x.qt + 1) * x.s + x.q, ?_, b1.u, b1.lo, b1.hi, fun T U a b c => ⟨(small T U a b c).1, (small T U a b c).2.1⟩, fun q q' w hq hq' o1 o2 o3 o4 => ?_⟩
  · have hd : ((x.qt + 1) * x.r + x.p) * x.s - ((x.qt + 1) * x.s + x.q) * x.r = -(x.r * x.q - x.p * x.s) := by grind
    have g1 : gcdZ ((x.qt + 1) * x.r + x.p) ((x.qt + 1) * x.s + x.q) ∣ ((x.qt + 1) * x.r + x.p) := by unfold gcdZ; exact Int.ofNat_dvd_left.2 (Nat.gcd_dvd_left _ _)
    have g2 : gcdZ ((x.qt + 1) * x.r + x.p) ((x.qt + 1) * x.s + x.q) ∣ ((x.qt + 1) * x.s + x.q) := by unfold gcdZ; exact Int.ofNat_dvd_left.2 (Nat.gcd_dvd_right _ _)
    have g0 : 0 ≤ gcdZ ((x.qt + 1) * x.r + x.p) ((x.qt + 1) * x.s + x.q) := Int.natCast_nonneg _
    have g3 := Int.dvd_sub (Int.dvd_trans g1 (Int.dvd_mul_right _ x.s)) (Int.dvd_trans g2 (Int.dvd_mul_right _ x.r))
    rw [hd] at g3
    generalize gcdZ ((x.qt + 1) * x.r + x.p) ((x.qt + 1) * x.s + x.q) = g at *
    have g4 : g ∣ 1 := by
      rcases hK.det with k | k
      · rw [k] at g3; exact Int.dvd_neg.1 g3
      · rw [k] at g3; simpa using g3
    exact Int.eq_one_of_dvd_one g0 g4
  · have f1 := fit_yes bz
    have f2 := fit_yes bu1
    have f3 := fit_yes bN
    have f4 := fit_yes bu2
    have f5 := fit_yes bD
    refine expand_run q q' w hq hq' K (fun k => (Ex.of n d m f).at k) (fun k => ((Ex.of n d m f).at k).qt) (fun k => ((Ex.of n d m f).at k).rs) (fun k => ((Ex.of n d m f).at k).ab) o1 o2 o3 o4 rfl rfl rfl rfl (Lib.hid fun k _ => (h.at k).exR) (Lib.hid fun k hk => (h.at k).exS (k1 k hk)) ?_ (x.qt + 1) ((x.qt + 1) * x.r) ((x.qt + 1) * x.r + x.p) ((x.qt + 1) * x.s) ((x.qt + 1) * x.s + x.q) ?_ ?_ ?_ ?_ ?_ ?_ ?_ ?_ ?_ ?_
    · show decide (Int.sign (((Ex.of n d m f).at K).f - ((Ex.of n d m f).at K).ab) < 0) = true
      rw [hx, decide_eq_true_iff, Int.sign_eq_neg_one_of_neg (by omega)]; decide
    all_goals (try simp only [hx])
    · exact f1.1
    · exact f1.2
    · exact f2.1
    · exact f2.2
    · exact f3.1
    · exact f3.2
    · exact f4.1
    · exact f4.2
    · exact f5.1
    · exact f5.2
end Go.Proofs.Ytfodjaeknhomkaa
