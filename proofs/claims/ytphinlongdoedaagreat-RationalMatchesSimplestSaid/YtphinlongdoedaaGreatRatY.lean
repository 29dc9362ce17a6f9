/-
 Stage 2: the expansion of the continued fraction for any two ends, whether its last convergent fits or not. Stage 2: the parts of the reference's continued fraction between two fractions, and what their fold yields: the least terms. Stage 2: the reference's Ints, where both numbers are the same. Stage 2: the reference's Same, where both numbers are the same. Stage 2: the calls of the laws' sanity, each for its numbers. Stage 2: the laws' sanity holds.
-/
import Derived.Test.YtphinlongdoedaaGreatRatCm
import Derived.Test.YtphinlongdoedaaGreatBaseA
namespace Go.Proofs.YtphinlongdoedaaGreat
open Go.RowKit
def Fits (N D : Int) : Prop := N.natAbs < BIG /\ D.natAbs < BIG
theorem kf_chain {a b c d e f1 f2 f3 f4 : Int} (h1 : f1 = a) (h2 : f2 = if f1 = 0 then b else f1) (h3 : f3 = if f2 = 0 then c else f2) (h4 : f4 = if f3 = 0 then d else f3) (hf : (if f4 = 0 then e else f4) = 0) : a = 0 /\ b = 0 /\ c = 0 /\ d = 0 /\ e = 0 := by
 by_cases k4 : f4 = 0
 . rw [if_pos k4] at hf
   rw [k4] at h4
   by_cases k3 : f3 = 0
   . rw [if_pos k3] at h4
     rw [k3] at h3
     by_cases k2 : f2 = 0
     . rw [if_pos k2] at h3
       rw [k2] at h2
       by_cases k1 : f1 = 0
       . rw [if_pos k1] at h2
         exact ⟨by omega, h2.symm, h3.symm, h4.symm, hf⟩
       . rw [if_neg k1] at h2; omega
     . rw [if_neg k2] at h3; omega
   . rw [if_neg k3] at h4; omega
 . rw [if_neg k4] at hf; omega
theorem kf_two {e f : Int} (he : e = 0 \/ e = 2) (hf : f = 0 \/ f = 2) : (if f = 0 then e else f) = 0 \/ (if f = 0 then e else f) = 2 := by
 by_cases k : f = 0
 . rw [if_pos k]; exact he
 . rw [if_neg k]; exact hf
theorem zP1 (z : Int) : fitE z = 0 \/ fitE z = 2 := by
 rcases zM8 z with k | k
 . exact Or.inl k.1
 . exact Or.inr k
theorem zP0 {z : Int} (h : fitE z = 0) : fitZ z = z /\ z.natAbs < BIG := by
 rcases zM8 z with k | k
 . exact k.2
 . omega
theorem expand_all {n d m f : Int} (n0 : 0 <= n) (d0 : 0 < d) (f0 : 0 < f) (lt : n * f < m * d) (nb : n.natAbs < BIG) (db : d.natAbs < BIG) (mb : m.natAbs < BIG) (fb : f.natAbs < BIG) :
 ∃ N D : Int, gcdZ N D = 1 /\ 0 < D /\ n * D < N * d /\ N * f < m * D /\ (∀ T U : Int, 0 < U -> n * U < T * d -> T * f < m * U -> N <= T /\ D <= U) ∧
   (Fits N D -> ∀ (q q' : RVal) (w : World), q.In w -> q'.In w -> q.o = some n -> q.od = some d -> q'.o = some m -> q'.od = some f -> Calls Tryz.prog 18 #[.agg #[.bool q.g, .slice q.A q.n q.c, .bool q.gd, .slice q.Ad q.nd q.cd], .agg #[.bool q'.g, .slice q'.A q'.n q'.c, .bool q'.gd, .slice q'.Ad q'.nd q'.cd]] w (RetR N D 0 w)) ∧
   (¬ Fits N D -> ∀ (q q' : RVal) (w : World), q.In w -> q'.In w -> q.o = some n -> q.od = some d -> q'.o = some m -> q'.od = some f -> Calls Tryz.prog 18 #[.agg #[.bool q.g, .slice q.A q.n q.c, .bool q.gd, .slice q.Ad q.nd q.cd], .agg #[.bool q'.g, .slice q'.A q'.n q'.c, .bool q'.gd, .slice q'.Ad q'.nd q'.cd]] w (RetR 0 0 2 w)) := by
 have h := Inv.of n0 d0 f0 lt nb db mb fb
 obtain ⟨K, k1, k2⟩ := ends _ (Ex.of n d m f) h (Nat.le_refl _)
 have hK := h.at K
 generalize hx : (Ex.of n d m f).at K = x at *
 have e := Ex.div hK.d0
 have q0 := hK.qt0
 have hab : x.ab = x.m - x.qt * x.f := rfl
 have least : ∀ T U : Int, 0 < U -> n * U < T * d -> T * f < m * U -> x.qt + 1 <= max T 0 + x.qt + 1 /\ ∃ T' U' : Int, x.qt + 1 <= T' /\ 1 <= U' /\ x.r * T' + x.p * U' = T /\ x.s * T' + x.q * U' = U := by
  intro T U u0 lo hi
  obtain ⟨T', U', b, e1, e2⟩ := btw_at h (T := T) (U := U) ⟨u0, lo, hi⟩ K k1
  rw [hx] at b e1 e2
  refine ⟨by omega, T', U', ?_, by have := b.u; omega, ?_, ?_⟩
  . have a : x.d * (x.qt * U') <= x.n * U' := by
     have k : (x.d * x.qt) * U' <= x.n * U' := Int.mul_le_mul_of_nonneg_right (by omega) (Int.le_of_lt b.u)
     rwa [Int.mul_assoc] at k
    have c : x.d * (x.qt * U') < x.d * T' := by have := b.lo; rw [Int.mul_comm x.d T']; omega
    have c2 := Int.lt_of_mul_lt_mul_left c (Int.le_of_lt hK.d0)
    have c3 : x.qt * 1 <= x.qt * U' := Int.mul_le_mul_of_nonneg_left (by have := b.u; omega) q0
    omega
  . rw [e1]; show 1 * T + 0 * U = T; omega
  . rw [e2]; show 0 * T + 1 * U = U; omega
 have small : ∀ T U : Int, 0 < U -> n * U < T * d -> T * f < m * U -> (x.qt + 1) * x.r + x.p <= T /\ (x.qt + 1) * x.s + x.q <= U /\ (x.qt + 1 <= T \/ x.qt + 1 <= U) := by
  intro T U u0 lo hi
  obtain ⟨_, T', U', h1, h2, e1, e2⟩ := least T U u0 lo hi
  have a1 : (x.qt + 1) * x.r <= T' * x.r := Int.mul_le_mul_of_nonneg_right h1 hK.r0
  have a2 : x.p * 1 <= x.p * U' := Int.mul_le_mul_of_nonneg_left h2 hK.p0
  have a3 : (x.qt + 1) * x.s <= T' * x.s := Int.mul_le_mul_of_nonneg_right h1 hK.s0
  have a4 : x.q * 1 <= x.q * U' := Int.mul_le_mul_of_nonneg_left h2 hK.q0
  rw [Int.mul_comm T' x.r] at a1
  rw [Int.mul_comm T' x.s] at a3
  refine ⟨by omega, by omega, ?_⟩
  have hp := hK.p0
  have hq := hK.q0
  have hpu : 0 <= x.p * U' := Int.mul_nonneg hp (by omega)
  have hqu : 0 <= x.q * U' := Int.mul_nonneg hq (by omega)
  by_cases r1 : 1 <= x.r
  . left
    have : 1 * T' <= x.r * T' := Int.mul_le_mul_of_nonneg_right r1 (by omega)
    omega
  . right
    have s1 : 1 <= x.s := by have := hK.rs; omega
    have : 1 * T' <= x.s * T' := Int.mul_le_mul_of_nonneg_right s1 (by omega)
    omega
 have bt : Btw x (x.qt + 1) 1 := by
  refine ⟨by decide, ?_, ?_⟩
  . have : (x.qt + 1) * x.d = x.d * x.qt + x.d := by rw [Int.add_mul, Int.one_mul, Int.mul_comm]
    omega
  . have : (x.qt + 1) * x.f = x.qt * x.f + x.f := by rw [Int.add_mul, Int.one_mul]
    omega
 obtain ⟨T1, U1, b1, e1, e2⟩ := btw_back h K (T' := x.qt + 1) (U' := 1) (by rw [hx]; exact bt) (by omega)
 rw [hx] at e1 e2
 have hT1 : T1 = (x.qt + 1) * x.r + x.p := by
  have : 1 * T1 + 0 * U1 = x.r * (x.qt + 1) + x.p * 1 := e1
  rw [Int.mul_comm x.r] at this; omega
 have hU1 : U1 = (x.qt + 1) * x.s + x.q := by
  have : 0 * T1 + 1 * U1 = x.s * (x.qt + 1) + x.q * 1 := e2
  rw [Int.mul_comm x.s] at this; omega
 subst hT1
 subst hU1
 refine ⟨(x.qt + 1) * x.r + x.p, (x.qt + 1) * x.s + x.q, ?_, b1.u, b1.lo, b1.hi, fun T U a b c => ⟨(small T U a b c).1, (small T U a b c).2.1⟩, fun ft => ?_, fun ft q q' w hq hq' o1 o2 o3 o4 => ?_⟩
 . have hd : ((x.qt + 1) * x.r + x.p) * x.s - ((x.qt + 1) * x.s + x.q) * x.r = -(x.r * x.q - x.p * x.s) := by grind
   have g1 : gcdZ ((x.qt + 1) * x.r + x.p) ((x.qt + 1) * x.s + x.q) ∣ ((x.qt + 1) * x.r + x.p) := by unfold gcdZ; exact Int.ofNat_dvd_left.2 (Nat.gcd_dvd_left _ _)
   have g2 : gcdZ ((x.qt + 1) * x.r + x.p) ((x.qt + 1) * x.s + x.q) ∣ ((x.qt + 1) * x.s + x.q) := by unfold gcdZ; exact Int.ofNat_dvd_left.2 (Nat.gcd_dvd_right _ _)
   have g0 : 0 <= gcdZ ((x.qt + 1) * x.r + x.p) ((x.qt + 1) * x.s + x.q) := Int.natCast_nonneg _
   have g3 := Int.dvd_sub (Int.dvd_trans g1 (Int.dvd_mul_right _ x.s)) (Int.dvd_trans g2 (Int.dvd_mul_right _ x.r))
   rw [hd] at g3
   generalize gcdZ ((x.qt + 1) * x.r + x.p) ((x.qt + 1) * x.s + x.q) = g at *
   have g4 : g ∣ 1 := by
    rcases hK.det with k | k
    . rw [k] at g3; exact Int.dvd_neg.1 g3
    . rw [k] at g3; simpa using g3
   exact Int.eq_one_of_dvd_one g0 g4
 . intro q q' w hq hq' o1 o2 o3 o4
   have w1 : 0 <= (x.qt + 1) * x.r := Int.mul_nonneg (by omega) hK.r0
   have w2 : 0 <= (x.qt + 1) * x.s := Int.mul_nonneg (by omega) hK.s0
   have hp := hK.p0
   have hq0 := hK.q0
   have fN : ((x.qt + 1) * x.r + x.p).natAbs < BIG := ft.1
   have fD : ((x.qt + 1) * x.s + x.q).natAbs < BIG := ft.2
   have fm : (x.qt + 1).natAbs < BIG := by
    by_cases r1 : 1 <= x.r
    . have : (x.qt + 1) * 1 <= (x.qt + 1) * x.r := Int.mul_le_mul_of_nonneg_left r1 (by omega)
      omega
    . have s1 : 1 <= x.s := by have := hK.rs; omega
      have : (x.qt + 1) * 1 <= (x.qt + 1) * x.s := Int.mul_le_mul_of_nonneg_left s1 (by omega)
      omega
   have y1 := zB1 fm
   have y2 := zB1 (z := (x.qt + 1) * x.r) (by omega)
   have y3 := zB1 fN
   have y4 := zB1 (z := (x.qt + 1) * x.s) (by omega)
   have y5 := zB1 fD
   refine zN9 q q' w hq hq' K (fun k => (Ex.of n d m f).at k) (fun k => ((Ex.of n d m f).at k).qt) (fun k => ((Ex.of n d m f).at k).rs) (fun k => ((Ex.of n d m f).at k).ab) o1 o2 o3 o4 rfl rfl rfl rfl (hI fun k _ => (h.at k).exR) (hI fun k hk => (h.at k).exS (k1 k hk)) ?_ (x.qt + 1) ((x.qt + 1) * x.r) ((x.qt + 1) * x.r + x.p) ((x.qt + 1) * x.s) ((x.qt + 1) * x.s + x.q) 0 0 0 0 0 _ _ ⟨fun _ => ⟨rfl, rfl⟩, fun k => absurd rfl k⟩ ?_ ?_ ?_ ?_ ?_ ?_ ?_ ?_ ?_ ?_
   . show decide (Int.sign (((Ex.of n d m f).at K).f - ((Ex.of n d m f).at K).ab) < 0) = true
     rw [hx, decide_eq_true_iff, Int.sign_eq_neg_one_of_neg (by omega)]; decide
   all_goals (try simp only [hx])
   . exact y1.1
   . exact zC8 y1.2
   . exact y2.1
   . exact zC8 y2.2
   . exact y3.1
   . exact zC8 y3.2
   . exact y4.1
   . exact zC8 y4.2
   . exact y5.1
   . exact zC8 y5.2
 . generalize hz : fitZ (x.qt + 1) = z
   generalize hu1 : fitZ (z * x.r) = u1
   generalize hN : fitZ (u1 + x.p) = N
   generalize hu2 : fitZ (z * x.s) = u2
   generalize hD : fitZ (u2 + x.q) = Dn
   generalize h1 : fitE (x.qt + 1) = f1
   generalize h2 : (if f1 = 0 then fitE (z * x.r) else f1) = f2
   generalize h3 : (if f2 = 0 then fitE (u1 + x.p) else f2) = f3
   generalize h4 : (if f3 = 0 then fitE (z * x.s) else f3) = f4
   generalize h5 : (if f4 = 0 then fitE (u2 + x.q) else f4) = f5
   have t1 : f1 = 0 \/ f1 = 2 := by rw [<- h1]; exact zP1 _
   have t2 : f2 = 0 \/ f2 = 2 := by rw [<- h2]; exact kf_two (zP1 _) t1
   have t3 : f3 = 0 \/ f3 = 2 := by rw [<- h3]; exact kf_two (zP1 _) t2
   have t4 : f4 = 0 \/ f4 = 2 := by rw [<- h4]; exact kf_two (zP1 _) t3
   have t5 : f5 = 0 \/ f5 = 2 := by rw [<- h5]; exact kf_two (zP1 _) t4
   have no : f5 ≠ 0 := by
    intro k
    rw [<- h5] at k
    obtain ⟨e1, e2, e3, e4, e5⟩ := kf_chain h1.symm h2.symm h3.symm h4.symm k
    have y1 := zP0 e1
    have zz : z = x.qt + 1 := by rw [<- hz]; exact y1.1
    have y2 := zP0 e2
    have y3 := zP0 e3
    have y4 := zP0 e4
    have y5 := zP0 e5
    have v1 : u1 = z * x.r := by rw [<- hu1]; exact y2.1
    have v2 : u2 = z * x.s := by rw [<- hu2]; exact y4.1
    rw [v1, zz] at y3
    rw [v2, zz] at y5
    exact ft ⟨y3.2, y5.2⟩
   have h2f : f5 = 2 := by omega
   rw [h2f] at h5
   refine zN9 q q' w hq hq' K (fun k => (Ex.of n d m f).at k) (fun k => ((Ex.of n d m f).at k).qt) (fun k => ((Ex.of n d m f).at k).rs) (fun k => ((Ex.of n d m f).at k).ab) o1 o2 o3 o4 rfl rfl rfl rfl (hI fun k _ => (h.at k).exR) (hI fun k hk => (h.at k).exS (k1 k hk)) ?_ z u1 N u2 Dn f1 f2 f3 f4 2 0 0 ⟨fun k => absurd k (by decide), fun _ => ⟨rfl, rfl⟩⟩ ?_ ?_ ?_ ?_ ?_ ?_ ?_ ?_ ?_ ?_
   . show decide (Int.sign (((Ex.of n d m f).at K).f - ((Ex.of n d m f).at K).ab) < 0) = true
     rw [hx, decide_eq_true_iff, Int.sign_eq_neg_one_of_neg (by omega)]; decide
   all_goals (try simp only [hx])
   . exact hz
   . exact Or.inl ⟨rfl, h1.symm⟩
   . exact hu1
   . rw [<- h2]; exact zT6 _ _
   . exact hN
   . rw [<- h3]; exact zT6 _ _
   . exact hu2
   . rw [<- h4]; exact zT6 _ _
   . exact hD
   . rw [<- h5]; exact zT6 _ _
end Go.Proofs.YtphinlongdoedaaGreat
namespace Go.Proofs.YtphinlongdoedaaGreat
structure Sta (n d m f : Int) : Prop where
 n0 : 0 <= n
 d0 : 0 < d
 f0 : 0 <= f
 m0 : 0 < m
 lt : n * f < m * d
def fv : List Int -> Int × Int
 | [] => (1, 0)
 | p :: ps => (p * (fv ps).1 + (fv ps).2, (fv ps).1)
inductive Run : Int -> Int -> Int -> Int -> List Int -> Prop
 | last {n d m f : Int} : (n / d + 1) * f < m -> Run n d m f [n / d + 1]
 | next {n d m f : Int} {ps : List Int} : ¬ (n / d + 1) * f < m -> Run f (m - n / d * f) d (n % d) ps -> Run n d m f (n / d :: ps)
theorem Sta.q0 {n d m f : Int} (h : Sta n d m f) : 0 <= n / d := Int.ediv_nonneg h.n0 (Int.le_of_lt h.d0)
theorem Sta.eq {n d m f : Int} (h : Sta n d m f) : n = n / d * d + n % d /\ 0 <= n % d /\ n % d < d := by
 have := Int.mul_ediv_add_emod n d
 rw [Int.mul_comm] at this
 exact ⟨by omega, Int.emod_nonneg _ (by have := h.d0; omega), Int.emod_lt_of_pos _ h.d0⟩
theorem Sta.dpos {n d m f : Int} (h : Sta n d m f) : 0 < m - n / d * f := by
 obtain ⟨e, r0, r1⟩ := h.eq
 have q0 := h.q0
 have lt := h.lt
 have f0 := h.f0
 have d0 := h.d0
 generalize n / d = q at *
 generalize n % d = r at *
 have k : d * (q * f) < d * m := by
  have a : q * d * f <= n * f := Int.mul_le_mul_of_nonneg_right (by omega) f0
  have e1 : d * (q * f) = q * d * f := by grind
  have e2 : d * m = m * d := Int.mul_comm _ _
  omega
 have := Int.lt_of_mul_lt_mul_left k (by omega)
 omega
theorem Sta.next {n d m f : Int} (h : Sta n d m f) : Sta f (m - n / d * f) d (n % d) := by
 obtain ⟨e, r0, r1⟩ := h.eq
 refine ⟨h.f0, h.dpos, r0, h.d0, ?_⟩
 have lt := h.lt
 generalize n / d = q at *
 generalize n % d = r at *
 subst e
 have e1 : (q * d + r) * f = q * d * f + f * r := by grind
 have e2 : d * (m - q * f) = m * d - q * d * f := by grind
 omega
theorem Sta.goes {n d m f : Int} (h : Sta n d m f) (g : ¬ (n / d + 1) * f < m) : m - n / d * f <= f /\ 1 <= f := by
 have m0 := h.m0
 have f0 := h.f0
 have q0 := h.q0
 have e : (n / d + 1) * f = n / d * f + f := by rw [Int.add_mul, Int.one_mul]
 refine ⟨by omega, ?_⟩
 by_cases k : f = 0
 . subst k; rw [Int.mul_zero] at g; omega
 . omega
theorem run_ex : ∀ (k : Nat) {n d m f : Int}, Sta n d m f -> (d + f).toNat <= k -> ∃ ps, Run n d m f ps
 | 0, n, d, m, f, h, hk => by have := h.d0; have := h.f0; omega
 | k + 1, n, d, m, f, h, hk => by
   by_cases g : (n / d + 1) * f < m
   . exact ⟨_, .last g⟩
   . have a := h.goes g
     have b := h.eq
     obtain ⟨ps, r⟩ := run_ex k h.next (by have := h.d0; have := h.dpos; omega)
     exact ⟨_, .next g r⟩
theorem run_ge {n d m f : Int} {ps : List Int} (r : Run n d m f ps) : Sta n d m f -> d <= n -> ∀ p ∈ ps, 1 <= p := by
 induction r with
 | @last n d m f g =>
   intro h _ p hp
   have := h.q0
   rw [List.mem_singleton] at hp
   omega
 | @next n d m f ps g r ih =>
   intro h hd p hp
   rcases List.mem_cons.1 hp with rfl | hp
   . have := Int.ediv_le_ediv h.d0 hd
     rw [Int.ediv_self (by have := h.d0; omega)] at this
     exact this
   . exact ih h.next (h.goes g).1 p hp
theorem run_tail {n d m f p : Int} {ps : List Int} (r : Run n d m f (p :: ps)) (h : Sta n d m f) : 0 <= p /\ ∀ x ∈ ps, 1 <= x := by
 cases r with
 | last g => exact ⟨by have := h.q0; omega, fun x hx => nomatch hx⟩
 | next g r => exact ⟨h.q0, run_ge r h.next (h.goes g).1⟩
theorem run_some {n d m f : Int} {ps : List Int} (r : Run n d m f ps) : ps ≠ [] := by cases r <;> exact List.cons_ne_nil _ _
theorem fv_pos : ∀ {ps : List Int}, (∀ p ∈ ps, 1 <= p) -> 0 < (fv ps).1 /\ 0 <= (fv ps).2
 | [], _ => by decide
 | p :: ps, h => by
   have a := fv_pos (ps := ps) fun x hx => h x (List.mem_cons_of_mem _ hx)
   have b := h p (List.mem_cons_self ..)
   have c : 0 < p * (fv ps).1 := Int.mul_pos (by omega) a.1
   exact ⟨by show 0 < p * (fv ps).1 + (fv ps).2; omega, by show 0 <= (fv ps).1; omega⟩
theorem fv_mono {p : Int} {ps : List Int} (hp : 1 <= p) (h : ∀ x ∈ ps, 1 <= x) : (fv ps).1 <= (fv (p :: ps)).1 := by
 have a := fv_pos h
 have b : 1 * (fv ps).1 <= p * (fv ps).1 := Int.mul_le_mul_of_nonneg_right hp (by omega)
 show (fv ps).1 <= p * (fv ps).1 + (fv ps).2
 omega
theorem fv_suffix : ∀ {xs ps : List Int}, (∀ x ∈ xs ++ ps, 1 <= x) -> (fv ps).1 <= (fv (xs ++ ps)).1
 | [], _, _ => Int.le_refl _
 | x :: xs, ps, h => by
   have a := fv_suffix (xs := xs) (ps := ps) fun y hy => h y (List.mem_cons_of_mem _ hy)
   have b := fv_mono (p := x) (ps := xs ++ ps) (h x (List.mem_cons_self ..)) fun y hy => h y (List.mem_cons_of_mem _ hy)
   exact Int.le_trans a b
theorem fv_way {n d m f : Int} {xs ps : List Int} (r : Run n d m f (xs ++ ps)) (h : Sta n d m f) : (fv ps).1 <= (fv (xs ++ ps)).1 \/ (fv ps).1 <= (fv (xs ++ ps)).2 := by
 cases xs with
 | nil => exact Or.inl (Int.le_refl _)
 | cons x xs =>
   right
   exact fv_suffix (run_tail r h).2
theorem fv_bd {n d m f : Int} {ps : List Int} (r : Run n d m f ps) (h : Sta n d m f) : 0 < (fv ps).1 /\ 0 < (fv ps).2 := by
 cases r with
 | last g =>
   have := h.q0
   exact ⟨by show 0 < (n / d + 1) * 1 + 0; omega, Int.zero_lt_one⟩
 | @next _ _ _ _ ps g r =>
   have a := run_tail (.next g r) h
   have b := fv_pos a.2
   have c : 0 <= n / d * (fv ps).1 := Int.mul_nonneg a.1 (by omega)
   have e : 0 < (fv ps).2 := by
    cases r with
    | last g2 => exact Int.zero_lt_one
    | next g2 r2 => exact (fv_pos fun x hx => a.2 x (List.mem_cons_of_mem _ hx)).1
   exact ⟨by show 0 < n / d * (fv ps).1 + (fv ps).2; omega, b.1⟩
theorem run_least {n d m f : Int} {ps : List Int} (r : Run n d m f ps) : Sta n d m f -> n * (fv ps).2 < (fv ps).1 * d /\ (fv ps).1 * f < m * (fv ps).2 /\ ∀ a b : Int, 0 < b -> n * b < a * d -> a * f < m * b -> (fv ps).2 <= b /\ (fv ps).1 <= a := by
 induction r with
 | @last n d m f g =>
   intro h
   obtain ⟨e, r0, r1⟩ := h.eq
   have q0 := h.q0
   have d0 := h.d0
   have f1 : (fv [n / d + 1]).1 = n / d + 1 := by show (n / d + 1) * 1 + 0 = _; omega
   have f2 : (fv [n / d + 1]).2 = 1 := rfl
   rw [f1, f2]
   generalize n / d = q at *
   generalize n % d = r at *
   refine ⟨?_, by omega, fun a b b0 lo hi => ⟨by omega, ?_⟩⟩
   . rw [Int.mul_one, Int.add_mul, Int.one_mul]; omega
   . have k : d * (q * b) < d * a := by
      have c : q * d * b <= n * b := Int.mul_le_mul_of_nonneg_right (by omega) (by omega)
      have e1 : d * (q * b) = q * d * b := by grind
      have e2 : d * a = a * d := Int.mul_comm _ _
      omega
     have k2 := Int.lt_of_mul_lt_mul_left k (by omega)
     have k3 : q * 1 <= q * b := Int.mul_le_mul_of_nonneg_left (by omega) q0
     omega
 | @next n d m f ps g rr ih =>
   intro h
   obtain ⟨e, r0, r1⟩ := h.eq
   obtain ⟨lo, hi, least⟩ := ih h.next
   have q0 := h.q0
   have d0 := h.d0
   have g1 := h.goes g
   have f1 : (fv (n / d :: ps)).1 = n / d * (fv ps).1 + (fv ps).2 := rfl
   have f2 : (fv (n / d :: ps)).2 = (fv ps).1 := rfl
   rw [f1, f2]
   generalize (fv ps).1 = N at *
   generalize (fv ps).2 = D at *
   generalize n / d = q at *
   generalize n % d = r at *
   subst e
   refine ⟨?_, ?_, fun a b b0 l u => ?_⟩
   . have e1 : (q * d + r) * N = q * d * N + N * r := by grind
     have e2 : (q * N + D) * d = q * d * N + d * D := by grind
     omega
   . have e1 : (q * N + D) * f = q * N * f + f * D := by grind
     have e2 : N * (m - q * f) = m * N - q * N * f := by grind
     omega
   . have b1 : 0 < a - q * b := by
      have k : d * (q * b) < d * a := by
       have c : q * d * b <= (q * d + r) * b := Int.mul_le_mul_of_nonneg_right (by omega) (by omega)
       have e1 : d * (q * b) = q * d * b := by grind
       have e2 : d * a = a * d := Int.mul_comm _ _
       omega
      have := Int.lt_of_mul_lt_mul_left k (by omega)
      omega
     have k := least b (a - q * b) b1 ?_ ?_
     . have e1 : q * N <= q * b := Int.mul_le_mul_of_nonneg_left k.2 q0
       omega
     . have e1 : f * (a - q * b) = a * f - q * f * b := by grind
       have e2 : b * (m - q * f) = m * b - q * f * b := by grind
       omega
     . have e1 : b * r = (q * d + r) * b - q * d * b := by grind
       have e2 : d * (a - q * b) = a * d - q * d * b := by grind
       omega
theorem two_lt {k E : Nat} {P : Int} (h : (2 : Int) ^ k <= 2 * P) (hP : P < 2 ^ E) : k < E + 1 := by
 by_cases g : E + 1 <= k
 . have a : (2 : Nat) ^ (E + 1) <= 2 ^ k := Nat.pow_le_pow_right (by decide) g
   have b : ((2 ^ (E + 1) : Nat) : Int) <= ((2 ^ k : Nat) : Int) := Int.ofNat_le.2 a
   rw [Int.natCast_pow, Int.natCast_pow] at b
   have c : ((2 : Nat) : Int) ^ (E + 1) = ((2 : Nat) : Int) ^ E * 2 := Int.pow_succ _ _
   rw [c] at b
   have d : ((2 : Nat) : Int) = 2 := rfl
   rw [d] at b
   generalize (2 : Int) ^ E = z at *
   omega
 . omega
structure Few (E : Nat) (P n d f : Int) (k : Nat) : Prop where
 h : n * f * 2 ^ k <= 2 * P
 d : (k = 0 /\ n * f <= P) \/ d <= n
 k : k <= E + 2
theorem Few.next {E : Nat} {P n d m f : Int} {k : Nat} (h : Few E P n d f k) (s : Sta n d m f) (g : ¬ (n / d + 1) * f < m) (hP : P < 2 ^ E) : Few E P f (m - n / d * f) (n % d) (k + 1) := by
 have a := s.goes g
 obtain ⟨e, r0, r1⟩ := s.eq
 have q0 := s.q0
 have n0 := s.n0
 have d0 := s.d0
 have p2 : (0 : Int) < 2 ^ k := Int.pow_pos (by decide)
 refine ⟨?_, Or.inr a.1, ?_⟩
 . rw [Int.pow_succ]
   rcases h.d with ⟨k0, kp⟩ | kd
   . subst k0
     have b : f * (n % d) <= f * n := Int.mul_le_mul_of_nonneg_left (by
      have := Int.mul_nonneg q0 (Int.le_of_lt d0); omega) (by omega)
     have c := h.h
     rw [Int.pow_zero] at *
     have e1 : f * (n % d) * (1 * 2) = 2 * (f * (n % d)) := by grind
     have e2 : n * f * 1 = f * n := by grind
     rw [e1]
     rw [Int.mul_comm n f] at kp
     omega
   . have q1 : 1 <= n / d := by
      have := Int.ediv_le_ediv d0 kd
      rwa [Int.ediv_self (by omega)] at this
     have q2 : 1 * d <= n / d * d := Int.mul_le_mul_of_nonneg_right q1 (by omega)
     have b : f * (2 * (n % d)) <= f * n := Int.mul_le_mul_of_nonneg_left (by omega) (by omega)
     have c : f * (2 * (n % d)) * 2 ^ k <= f * n * 2 ^ k := Int.mul_le_mul_of_nonneg_right b (by omega)
     have e1 : f * (n % d) * ((2 : Int) ^ k * 2) = f * (2 * (n % d)) * 2 ^ k := by grind
     have e2 : n * f * (2 : Int) ^ k = f * n * 2 ^ k := by grind
     have := h.h
     omega
 . rcases h.d with ⟨k0, kp⟩ | kd
   . omega
   . have b : 1 * 1 <= n * f := Int.mul_le_mul (by omega) a.2 (by decide) n0
     have c : 1 * 2 ^ k <= n * f * 2 ^ k := Int.mul_le_mul_of_nonneg_right (by omega) (by omega)
     have := h.h
     have := two_lt (by omega : (2 : Int) ^ k <= 2 * P) hP
     omega
end Go.Proofs.YtphinlongdoedaaGreat
namespace Go.Proofs.YtphinlongdoedaaGreat
open Go.RowKit
set_option maxHeartbeats 1000000
theorem ints_yes (neg neg' : Bool) (A A' : Option Addr) (n c n' c' : Nat) (xs ys : List Nat) (w : World) (h : Sl w w.heap.size A n c xs) (h' : Sl w w.heap.size A' n' c' ys) (hneg : neg = neg') (hxy : xs = ys) :
 Calls Tryz.prog 15 #[.agg #[.bool neg, .slice A n c], .agg #[.bool neg', .slice A' n' c']] w fun e w' => e = .returned (.bool true) /\ Below w.heap.size w w' := by
 subst hneg
 subst hxy
 have hn := h.len
 have hn' := h'.len
 obtain rfl : n = n' := by omega
 have hcap := h.cap
 have hreach := h.reach
 clear hn hn'
 have e1 : (neg != neg) = false := by simp
 have e2 : ((n : Int) != (n : Int)) = false := by simp
 go_enter Tryz.func15, Tryz.ntmps15
 go_wp2
 generalize hW : World.alloc (World.alloc w _) _ = W
 have hb : Below w.heap.size w W := by subst hW; exact ((Below.refl _ _).alloc (Nat.le_refl _) _).alloc (by simp) _
 have hs := h.on hb
 have hs' := h'.on hb
 have b0 : Bx W w.heap.size neg A n c := by subst hW; exact (Bx.new _ _ _ _ _).alloc _
 have b1 : Bx W (w.heap.size + 1) neg A' n c' := by
  subst hW
  have := Bx.new (w.alloc (.cells #[.bool neg, .slice A n c] 24)) neg A' n c'
  simpa using this
 have k1 := b0.c1
 have k3 := b1.c1
 have HB := hI hb
 clear hW hb
 go_loopw [5] (fun iv wr => ∃ k q : Nat, k <= n /\ iv = .int .i64 k /\ wr = W.drewN q) (fun iv _ => n - (intOf iv).toNat)
 case atStart => exact ⟨0, 0, by omega, rfl, rfl⟩
 case round =>
  obtain ⟨k, q, hk, rfl, rfl⟩ := hrel
  by_cases hkn : k < n
  . obtain ⟨ad, rfl, _, hc1⟩ := hs.cell hkn
    obtain ⟨ad', rfl, _, hc2⟩ := hs'.cell hkn
    have e3 : ((lim xs k : Nat) != ((lim xs k : Nat) : Int)) = false := by simp
    go_wp2_with fail
    go_quiet (fail)
    go_wp2
    exact ⟨⟨k + 1, _, by omega, by go_num, by first | rfl | (simp only [World.drewN_drewN]; rfl)⟩, by simp [intOf]; omega⟩
  . go_wp2
    go_ret
    exact ⟨rfl, zA6 HB.out _⟩
end Go.Proofs.YtphinlongdoedaaGreat
namespace Go.Proofs.YtphinlongdoedaaGreat
open Go.RowKit
set_option maxHeartbeats 1000000
theorem zQ {w w' : World} {B B' n n' c c' : Nat} {A A' : Option Addr} {g g' : Bool} {xs ys : List Nat} {z : Int} (h : Sl w B A n c xs) (h' : Sl w' B' A' n' c' ys) (o : ov g xs = some z) (o' : ov g' ys = some z) : g = g' /\ xs = ys :=
 ⟨(zK2 o).symm.trans (zK2 o'), uniq h.ok h'.ok (zG1 o).1 (zG1 o').1 ((zG1 o).2.1.trans (zG1 o').2.1.symm)⟩
theorem same_q (q q' : RVal) (w : World) (h : q.In w) (h' : q'.In w) (z zd : Int) (o1 : q.o = some z) (o2 : q.od = some zd) (o3 : q'.o = some z) (o4 : q'.od = some zd) :
 Calls Tryz.prog 7 #[.agg #[.bool q.g, .slice q.A q.n q.c, .bool q.gd, .slice q.Ad q.nd q.cd], .agg #[.bool q'.g, .slice q'.A q'.n q'.c, .bool q'.gd, .slice q'.Ad q'.nd q'.cd]] w fun e w' => e = .returned (.bool true) /\ Below w.heap.size w w' := by
 have HO := hI (And.intro (And.intro o1 o2) (And.intro o3 o4))
 have HS := hI (And.intro h h')
 clear h h' o1 o2 o3 o4
 go_enter Tryz.func7, Tryz.ntmps7
 go_wp2_with fail
 generalize hW : World.alloc (World.alloc w _) _ = V
 obtain ⟨hb, ra, rb⟩ := zL3 q q' w V HS.out.1 HS.out.2 hW
 generalize hr : w.heap.size = r at *
 have HRr := hI hr
 have HB := hI hb
 have H0 := hI (And.intro ra rb)
 clear hW hb hr
 have a0 := ra.c0
 have a1 := ra.c1
 have b0 := rb.c0
 have b1 := rb.c1
 clear ra rb
 go_wp2_with fail
 refine (ints_yes _ _ _ _ _ _ _ _ _ _ V H0.out.1.sl.1 H0.out.2.sl.1 (zQ H0.out.1.sl.1 H0.out.2.sl.1 HO.out.1.1 HO.out.2.1).1 (zQ H0.out.1.sl.1 H0.out.2.sl.1 HO.out.1.1 HO.out.2.1).2).mono ?_
 clear a0 a1 b0 b1
 rintro e w1 ⟨rfl, hb1⟩
 have B1 := hI (zA HB.out (by have := HB.out.size; have := HRr.out; omega) hb1)
 have H1 := hI (show Rb w1 r q /\ Rb w1 (r + 1) q' from ⟨H0.out.1.on hb1, H0.out.2.on hb1⟩)
 clear hb1 H0 HB
 have a2 := H1.out.1.c2
 have a3 := H1.out.1.c3
 have b2 := H1.out.2.c2
 have b3 := H1.out.2.c3
 go_wp2_with fail
 refine (ints_yes _ _ _ _ _ _ _ _ _ _ w1 H1.out.1.sl.2 H1.out.2.sl.2 (zQ H1.out.1.sl.2 H1.out.2.sl.2 HO.out.1.2 HO.out.2.2).1 (zQ H1.out.1.sl.2 H1.out.2.sl.2 HO.out.1.2 HO.out.2.2).2).mono ?_
 clear a2 a3 b2 b3
 rintro e w2 ⟨rfl, hb2⟩
 have B2 := hI (zA B1.out (by have := B1.out.size; have := HRr.out; omega) hb2)
 clear hb2 B1 H1
 go_wp2
 go_ret
 exact ⟨rfl, by rw [HRr.out]; exact B2.out⟩
end Go.Proofs.YtphinlongdoedaaGreat
namespace Go.Proofs.YtphinlongdoedaaGreat
open Go.RowKit
def RetZ (z er : Int) (w : World) (e : Ending) (w' : World) : Prop := ∃ g A n c xs, e = .returned (.tuple #[.agg #[.bool g, .slice A n c], .int .i64 er]) /\ Sl w' w'.heap.size A n c xs /\ ov g xs = some z /\ Below w.heap.size w w'
def RetZ1 (z : Int) (w : World) (e : Ending) (w' : World) : Prop := ∃ g A n c xs, e = .returned (.agg #[.bool g, .slice A n c]) /\ Sl w' w'.heap.size A n c xs /\ ov g xs = some z /\ Below w.heap.size w w'
section
variable {q q' : RVal} {w : World}
theorem qn (n d : Int) (h : 0 < d) (hg : gcdZ n d = 1) : (Rat.divInt n d).num = n /\ ((Rat.divInt n d).den : Int) = d := by
 have r := zC1 (zP7 h hg)
 exact ⟨(Option.some.inj r.1).symm, (Option.some.inj r.2).symm⟩
theorem of_c (n d : Int) (w : World) (hd : 0 < d) (hg : gcdZ n d = 1) (h1 : n.natAbs < 4294967296) (h2 : d.natAbs < 4294967296) : Calls Tryz.prog 9 #[.int .i64 n, .int .i64 d] w (RetQ n d w) :=
 of_q n d n d w (by omega) (by omega) (by omega) (by omega) ((if_neg (by omega) : mkN (some n) (some d) = _).trans (qn n d hd hg).1) ((if_neg (by omega) : mkD (some n) (some d) = _).trans (qn n d hd hg).2)
theorem qden {n d : Int} (hd : 0 < d) (hg : gcdZ n d = 1) : (Rat.divInt n d).den = d.toNat := by have := (qn n d hd hg).2; omega
theorem add_c (h : q.In w) (h' : q'.In w) (o1 : q.o = some 1) (o2 : q.od = some 2) (o3 : q'.o = some 1) (o4 : q'.od = some 3) : Calls Tryz.prog 8 #[.agg #[.bool q.g, .slice q.A q.n q.c, .bool q.gd, .slice q.Ad q.nd q.cd], .agg #[.bool q'.g, .slice q'.A q'.n q'.c, .bool q'.gd, .slice q'.Ad q'.nd q'.cd]] w (RetR 5 6 0 w) := by
 have e1 := qn 1 2 (by decide) (by decide)
 have e2 := qn 1 3 (by decide) (by decide)
 have C := add_ok h h' (by rw [o1, o2]; exact zP7 (by decide) (by decide)) (by rw [o3, o4]; exact zP7 (by decide) (by decide)) (by rw [e1.1, e2.2]; exact zH (by decide)) (by rw [e2.1, e1.2]; exact zH (by decide)) (by rw [e1.1, e2.2, e2.1, e1.2]; exact zH (by decide)) (by rw [e2.2, e1.2]; exact zH (by decide))
 have hs : Rat.divInt 1 2 + Rat.divInt 1 3 = Rat.divInt 5 6 := by rw [Rat.divInt_add_divInt _ _ (by decide) (by decide)]; rfl
 rwa [hs, (qn 5 6 (by decide) (by decide)).1, (qn 5 6 (by decide) (by decide)).2] at C
theorem div_c (h : q.In w) (h' : q'.In w) (o1 : q.o = some 3) (o2 : q.od = some 4) (o3 : q'.o = some (-1)) (o4 : q'.od = some 2) : Calls Tryz.prog 10 #[.agg #[.bool q.g, .slice q.A q.n q.c, .bool q.gd, .slice q.Ad q.nd q.cd], .agg #[.bool q'.g, .slice q'.A q'.n q'.c, .bool q'.gd, .slice q'.Ad q'.nd q'.cd]] w (RetR (-3) 2 0 w) := by
 have e1 := qn 3 4 (by decide) (by decide)
 have e2 := qn (-1) 2 (by decide) (by decide)
 have C := div_ok h h' (by rw [o1, o2]; exact zP7 (by decide) (by decide)) (by rw [o3, o4]; exact zP7 (by decide) (by decide)) (by rw [e2.1]; decide) (by rw [e1.1, e2.2]; exact zH (by decide)) (by rw [e2.1, e1.2]; exact zH (by decide))
 have hs : Rat.divInt 3 4 / Rat.divInt (-1) 2 = Rat.divInt (-3) 2 := by rw [Rat.div_def, Rat.inv_divInt, Rat.divInt_mul_divInt, Rat.divInt_eq_divInt_iff (by decide) (by decide)]; decide
 rwa [hs, (qn (-3) 2 (by decide) (by decide)).1, (qn (-3) 2 (by decide) (by decide)).2] at C
theorem div_c0 (h : q.In w) (h' : q'.In w) (o1 : q.o = some 3) (o2 : q.od = some 4) (o3 : q'.o = some 0) (o4 : q'.od = some 1) : Calls Tryz.prog 10 #[.agg #[.bool q.g, .slice q.A q.n q.c, .bool q.gd, .slice q.Ad q.nd q.cd], .agg #[.bool q'.g, .slice q'.A q'.n q'.c, .bool q'.gd, .slice q'.Ad q'.nd q'.cd]] w (RetR 0 0 4 w) := by
 have e1 := qn 3 4 (by decide) (by decide)
 have e2 := qn 0 1 (by decide) (by decide)
 exact div_zero h h' (by rw [o1, o2]; exact zP7 (by decide) (by decide)) (by rw [o3, o4]; exact zP7 (by decide) (by decide)) (by rw [e2.1]) (by rw [e1.1, e2.2]; exact zH (by decide)) (by rw [e2.1, e1.2]; exact zH (by decide))
theorem floor_c (h : q.In w) (o1 : q.o = some (-7)) (o2 : q.od = some 2) : Calls Tryz.prog 11 #[.agg #[.bool q.g, .slice q.A q.n q.c, .bool q.gd, .slice q.Ad q.nd q.cd], .int .i64 0] w (RetZ (-4) 0 w) := by
 have e1 := qn (-7) 2 (by decide) (by decide)
 have hz : shf (-7) 0 = -7 := by unfold shf; rw [if_pos (by decide)]; decide
 have C := floor_ok q 0 w h (Rat.divInt (-7) 2) (-7) 0 (-4) (by rw [o1, o2]; exact zP7 (by decide) (by decide)) (by decide) (by decide) (by rw [e1.1, hz]; exact zH (by decide)) (by rw [e1.1, hz]) rfl (by rw [e1.2]; decide)
 refine C.mono ?_
 rintro e w1 ⟨A, n, c, xs, rfl, hs, hx, hv, hb⟩
 exact ⟨_, A, n, c, xs, rfl, hs, zD5 hs.ok hx hv (zH (by decide)), hb⟩
theorem int_c (z : Int) (w : World) (h : z.natAbs < 4294967296) : Calls Tryz.prog 16 #[.int .i64 z] w (RetZ1 z w) := by
 refine (of_any z w (by omega) (by omega)).mono ?_
 rintro e w1 ⟨A, n, c, xs, rfl, hs, hx, hv, hb⟩
 exact ⟨_, A, n, c, xs, rfl, hs, zD5 hs.ok hx hv (zH h), hb⟩
theorem sqrt_c (h : q.In w) (o1 : q.o = some 9) (o2 : q.od = some 4) : Calls Tryz.prog 12 #[.agg #[.bool q.g, .slice q.A q.n q.c, .bool q.gd, .slice q.Ad q.nd q.cd]] w (RetRB 3 2 true 0 w) := by
 have e1 := qn 9 4 (by decide) (by decide)
 have e2 := qden (n := 9) (d := 4) (by decide) (by decide)
 exact rsq_yes q w h (Rat.divInt 9 4) 3 2 (by rw [o1, o2]; exact zP7 (by decide) (by decide)) (by rw [e1.1]; decide) (by rw [e1.1]; decide) (by rw [e1.1]; decide) (by rw [e2]; decide) (by rw [e2]; decide) (by rw [e1.1]; decide) (by rw [e2]; decide)
theorem tx1 : rtx (Rat.divInt (-3) 4) = [45, 51, 47, 52] := by
 have e1 := qn (-3) 4 (by decide) (by decide)
 have e2 := qden (n := -3) (d := 4) (by decide) (by decide)
 unfold rtx
 rw [if_neg (by rw [e2]; decide), e1.1, e1.2, zS1 (l := [45, 51]) (z := -3) (by decide), zS1 (l := [52]) (z := 4) (by decide)]
 rfl
theorem tx2 : rtx (Rat.divInt 2 5) = [50, 47, 53] := by
 have e1 := qn 2 5 (by decide) (by decide)
 have e2 := qden (n := 2) (d := 5) (by decide) (by decide)
 unfold rtx
 rw [if_neg (by rw [e2]; decide), e1.1, e1.2, zS1 (l := [50]) (z := 2) (by decide), zS1 (l := [53]) (z := 5) (by decide)]
 rfl
theorem text_c1 (h : q.In w) (o1 : q.o = some (-3)) (o2 : q.od = some 4) : Calls Tryz.prog 13 #[.agg #[.bool q.g, .slice q.A q.n q.c, .bool q.gd, .slice q.Ad q.nd q.cd]] w (RetTx [45, 51, 47, 52] 0 w) := by
 have C := text_q h (x := Rat.divInt (-3) 4) (by rw [o1, o2]; exact zP7 (by decide) (by decide))
 rwa [tx1] at C
theorem text_c2 (h : q.In w) (o1 : q.o = some 2) (o2 : q.od = some 5) : Calls Tryz.prog 13 #[.agg #[.bool q.g, .slice q.A q.n q.c, .bool q.gd, .slice q.Ad q.nd q.cd]] w (RetTx [50, 47, 53] 0 w) := by
 have C := text_q h (x := Rat.divInt 2 5) (by rw [o1, o2]; exact zP7 (by decide) (by decide))
 rwa [tx2] at C
end
theorem pr1 : rprE [54, 47, 56] = 3 := by
 have c1 : (Lib.cut [54, 47, 56] [47] : List UInt8 × List UInt8 × Bool) = ([54], [56], true) := by decide
 have p1 : prs [54] = some 6 := by decide
 have p2 : prs [56] = some 8 := by decide
 have f1 := zB8 (z := 6) (by decide)
 have f2 := zB8 (z := 8) (by decide)
 have z1 : prE [54] = 0 := by unfold prE; rw [p1]; exact f1.2
 have z2 : prE [56] = 0 := by unfold prE; rw [p2]; exact f2.2
 have z3 : prZ [54] = 6 := by unfold prZ; rw [p1]; exact f1.1
 have z4 : prZ [56] = 8 := by unfold prZ; rw [p2]; exact f2.1
 unfold rprE
 rw [c1]
 simp only [z1, z2, z3, z4]
 decide
theorem parse_c (w : World) : Calls Tryz.prog 14 #[.string { data := #[54, 47, 56] }] w (RetR 0 0 3 w) := by
 have C := parse_r { data := #[54, 47, 56] } w (by decide)
 have e : (({ data := #[54, 47, 56] } : ByteArray)).data.toList = [54, 47, 56] := rfl
 rw [e] at C
 have h1 : rprN [54, 47, 56] = 0 := by unfold rprN; rw [pr1]; rfl
 have h2 : rprD [54, 47, 56] = 0 := by unfold rprD; rw [pr1]; rfl
 rwa [pr1, h1, h2] at C
end Go.Proofs.YtphinlongdoedaaGreat
namespace Go.Proofs.YtphinlongdoedaaGreat
open Go.RowKit
set_option maxRecDepth 20000
set_option maxHeartbeats 4000000
structure SaneW (w0 : World) (b1 b3 b7 b9 : Nat) (t1 t3 t9 : RVal) (g : Bool) (A : Option Addr) (n c : Nat) (xs : List Nat) (w : World) : Prop where
 f1 : Rb w b1 t1
 f2 : Rb w b3 t3
 f3 : Ba w b7 g A n c xs
 f4 : Rb w b9 t9
 f5 : Below w0.heap.size w0 w
theorem SaneW.on {w0 w w' : World} {b1 b3 b7 b9 : Nat} {t1 t3 t9 : RVal} {g : Bool} {A : Option Addr} {n c : Nat} {xs : List Nat} (h : SaneW w0 b1 b3 b7 b9 t1 t3 t9 g A n c xs w) (hb : Below w.heap.size w w') : SaneW w0 b1 b3 b7 b9 t1 t3 t9 g A n c xs w' :=
 ⟨h.f1.on hb, h.f2.on hb, h.f3.on hb, h.f4.on hb, zA h.f5 h.f5.size hb⟩
theorem sane (w : World) : Calls Tryz.prog 4 #[] w fun e w' => e = .returned (.bool true) /\ Below w.heap.size w w' := by
 have B0 := hI (Below.refl w.heap.size w)
 go_enter Tryz.func4, Tryz.ntmps4
 go_wp2_with fail
 refine (of_c (1) (2) _ (by decide) (by decide) (by decide) (by decide)).mono ?_
 rintro e w1 ⟨pb1, rfl, hi, hopb1, hdpb1, hb⟩
 have B1 := hI (zA B0.out B0.out.size hb)
 have ipb1_1 : Hid (pb1.In w1) := hI hi
 clear hb B0 hi
 have Opb1 := hI (And.intro hopb1 hdpb1)
 clear hopb1 hdpb1
 go_wp2_with fail
 refine (of_c (1) (3) _ (by decide) (by decide) (by decide) (by decide)).mono ?_
 rintro e w2 ⟨qb1, rfl, hi, hoqb1, hdqb1, hb⟩
 have B2 := hI (zA B1.out B1.out.size hb)
 have ipb1_2 : Hid (pb1.In w2) := hI (ipb1_1.out.on hb)
 have iqb1_2 : Hid (qb1.In w2) := hI hi
 clear hb B1 ipb1_1 hi
 have Oqb1 := hI (And.intro hoqb1 hdqb1)
 clear hoqb1 hdqb1
 go_wp2_with fail
 refine (add_c ipb1_2.out iqb1_2.out Opb1.out.1 Opb1.out.2 Oqb1.out.1 Oqb1.out.2).mono ?_
 rintro e w3 ⟨tb1, rfl, hi, hot, hdt, hb⟩
 have B3 := hI (zA B2.out B2.out.size hb)
 have ipb1_3 : Hid (pb1.In w3) := hI (ipb1_2.out.on hb)
 have iqb1_3 : Hid (qb1.In w3) := hI (iqb1_2.out.on hb)
 have itb1_3 : Hid (tb1.In w3) := hI hi
 clear hb B2 ipb1_2 iqb1_2 hi
 have Otb1 := hI (And.intro hot hdt)
 clear hot hdt
 clear ipb1_3 iqb1_3
 go_wp2_with fail
 generalize hW : World.alloc w3 _ = V4
 have hn := zA0 w3 (.cells #[.bool tb1.g, .slice tb1.A tb1.n tb1.c, .bool tb1.gd, .slice tb1.Ad tb1.nd tb1.cd] 26)
 have hx := Rb.new itb1_3.out
 rw [hW] at hn hx
 have B4 := hI (zA B3.out B3.out.size hn)
 have itb1_4 : Hid (tb1.In V4) := hI (itb1_3.out.on hn)
 have xb1_4 := hI hx
 clear hx hn hW B3 itb1_3
 generalize w3.heap.size = b1 at *
 clear itb1_4
 refine (of_c (3) (4) _ (by decide) (by decide) (by decide) (by decide)).mono ?_
 rintro e w5 ⟨pb3, rfl, hi, hopb3, hdpb3, hb⟩
 have B5 := hI (zA B4.out B4.out.size hb)
 have xb1_5 : Hid (Rb w5 b1 tb1) := hI (xb1_4.out.on hb)
 have ipb3_5 : Hid (pb3.In w5) := hI hi
 clear hb B4 xb1_4 hi
 have Opb3 := hI (And.intro hopb3 hdpb3)
 clear hopb3 hdpb3
 go_wp2_with fail
 refine (of_c (-1) (2) _ (by decide) (by decide) (by decide) (by decide)).mono ?_
 rintro e w6 ⟨qb3, rfl, hi, hoqb3, hdqb3, hb⟩
 have B6 := hI (zA B5.out B5.out.size hb)
 have xb1_6 : Hid (Rb w6 b1 tb1) := hI (xb1_5.out.on hb)
 have ipb3_6 : Hid (pb3.In w6) := hI (ipb3_5.out.on hb)
 have iqb3_6 : Hid (qb3.In w6) := hI hi
 clear hb B5 xb1_5 ipb3_5 hi
 have Oqb3 := hI (And.intro hoqb3 hdqb3)
 clear hoqb3 hdqb3
 go_wp2_with fail
 refine (div_c ipb3_6.out iqb3_6.out Opb3.out.1 Opb3.out.2 Oqb3.out.1 Oqb3.out.2).mono ?_
 rintro e w7 ⟨tb3, rfl, hi, hot, hdt, hb⟩
 have B7 := hI (zA B6.out B6.out.size hb)
 have xb1_7 : Hid (Rb w7 b1 tb1) := hI (xb1_6.out.on hb)
 have ipb3_7 : Hid (pb3.In w7) := hI (ipb3_6.out.on hb)
 have iqb3_7 : Hid (qb3.In w7) := hI (iqb3_6.out.on hb)
 have itb3_7 : Hid (tb3.In w7) := hI hi
 clear hb B6 xb1_6 ipb3_6 iqb3_6 hi
 have Otb3 := hI (And.intro hot hdt)
 clear hot hdt
 clear ipb3_7 iqb3_7
 go_wp2_with fail
 generalize hW : World.alloc w7 _ = V8
 have hn := zA0 w7 (.cells #[.bool tb3.g, .slice tb3.A tb3.n tb3.c, .bool tb3.gd, .slice tb3.Ad tb3.nd tb3.cd] 26)
 have hx := Rb.new itb3_7.out
 rw [hW] at hn hx
 have B8 := hI (zA B7.out B7.out.size hn)
 have xb1_8 : Hid (Rb V8 b1 tb1) := hI (xb1_7.out.on hn)
 have itb3_8 : Hid (tb3.In V8) := hI (itb3_7.out.on hn)
 have xb3_8 := hI hx
 clear hx hn hW B7 xb1_7 itb3_7
 generalize w7.heap.size = b3 at *
 clear itb3_8
 refine (of_c (3) (4) _ (by decide) (by decide) (by decide) (by decide)).mono ?_
 rintro e w9 ⟨pb5, rfl, hi, hopb5, hdpb5, hb⟩
 have B9 := hI (zA B8.out B8.out.size hb)
 have xb1_9 : Hid (Rb w9 b1 tb1) := hI (xb1_8.out.on hb)
 have xb3_9 : Hid (Rb w9 b3 tb3) := hI (xb3_8.out.on hb)
 have ipb5_9 : Hid (pb5.In w9) := hI hi
 clear hb B8 xb1_8 xb3_8 hi
 have Opb5 := hI (And.intro hopb5 hdpb5)
 clear hopb5 hdpb5
 go_wp2_with fail
 refine (of_c (0) (1) _ (by decide) (by decide) (by decide) (by decide)).mono ?_
 rintro e w10 ⟨qb5, rfl, hi, hoqb5, hdqb5, hb⟩
 have B10 := hI (zA B9.out B9.out.size hb)
 have xb1_10 : Hid (Rb w10 b1 tb1) := hI (xb1_9.out.on hb)
 have xb3_10 : Hid (Rb w10 b3 tb3) := hI (xb3_9.out.on hb)
 have ipb5_10 : Hid (pb5.In w10) := hI (ipb5_9.out.on hb)
 have iqb5_10 : Hid (qb5.In w10) := hI hi
 clear hb B9 xb1_9 xb3_9 ipb5_9 hi
 have Oqb5 := hI (And.intro hoqb5 hdqb5)
 clear hoqb5 hdqb5
 go_wp2_with fail
 refine (div_c0 ipb5_10.out iqb5_10.out Opb5.out.1 Opb5.out.2 Oqb5.out.1 Oqb5.out.2).mono ?_
 rintro e w11 ⟨tb5, rfl, hi, hot, hdt, hb⟩
 have B11 := hI (zA B10.out B10.out.size hb)
 have xb1_11 : Hid (Rb w11 b1 tb1) := hI (xb1_10.out.on hb)
 have xb3_11 : Hid (Rb w11 b3 tb3) := hI (xb3_10.out.on hb)
 have ipb5_11 : Hid (pb5.In w11) := hI (ipb5_10.out.on hb)
 have iqb5_11 : Hid (qb5.In w11) := hI (iqb5_10.out.on hb)
 have itb5_11 : Hid (tb5.In w11) := hI hi
 clear hb B10 xb1_10 xb3_10 ipb5_10 iqb5_10 hi
 have Otb5 := hI (And.intro hot hdt)
 clear hot hdt
 clear ipb5_11 iqb5_11
 go_wp2_with fail
 generalize hW : World.alloc w11 _ = V12
 have hn := zA0 w11 (.cells #[.bool tb5.g, .slice tb5.A tb5.n tb5.c, .bool tb5.gd, .slice tb5.Ad tb5.nd tb5.cd] 26)
 have hx := Rb.new itb5_11.out
 rw [hW] at hn hx
 have B12 := hI (zA B11.out B11.out.size hn)
 have xb1_12 : Hid (Rb V12 b1 tb1) := hI (xb1_11.out.on hn)
 have xb3_12 : Hid (Rb V12 b3 tb3) := hI (xb3_11.out.on hn)
 have itb5_12 : Hid (tb5.In V12) := hI (itb5_11.out.on hn)
 clear hx hn hW B11 xb1_11 xb3_11 itb5_11
 clear itb5_12
 refine (of_c (-7) (2) _ (by decide) (by decide) (by decide) (by decide)).mono ?_
 rintro e w13 ⟨p7, rfl, hi, hop7, hdp7, hb⟩
 have B13 := hI (zA B12.out B12.out.size hb)
 have xb1_13 : Hid (Rb w13 b1 tb1) := hI (xb1_12.out.on hb)
 have xb3_13 : Hid (Rb w13 b3 tb3) := hI (xb3_12.out.on hb)
 have ip7_13 : Hid (p7.In w13) := hI hi
 clear hb B12 xb1_12 xb3_12 hi
 have Op7 := hI (And.intro hop7 hdp7)
 clear hop7 hdp7
 go_wp2_with fail
 refine (floor_c ip7_13.out Op7.out.1 Op7.out.2).mono ?_
 rintro e w14 ⟨g7, A7, n7, c7, xs7, rfl, hi, hot, hb⟩
 have B14 := hI (zA B13.out B13.out.size hb)
 have xb1_14 : Hid (Rb w14 b1 tb1) := hI (xb1_13.out.on hb)
 have xb3_14 : Hid (Rb w14 b3 tb3) := hI (xb3_13.out.on hb)
 have ip7_14 : Hid (p7.In w14) := hI (ip7_13.out.on hb)
 have s7_14 : Hid (Sl w14 w14.heap.size A7 n7 c7 xs7) := hI hi
 clear hb B13 xb1_13 xb3_13 ip7_13 hi
 have O7 := hI hot
 clear hot
 clear ip7_14
 go_wp2_with fail
 generalize hW : World.alloc w14 _ = V7
 have hn := zA0 w14 (.cells #[.bool g7, .slice A7 n7 c7] 24)
 have hx := Bx.new w14 g7 A7 n7 c7
 rw [hW] at hn hx
 have B15 := hI (zA B14.out B14.out.size hn)
 have xb1_15 : Hid (Rb V7 b1 tb1) := hI (xb1_14.out.on hn)
 have xb3_15 : Hid (Rb V7 b3 tb3) := hI (xb3_14.out.on hn)
 have s7_15 : Hid (Sl V7 V7.heap.size A7 n7 c7 xs7) := hI (s7_14.out.on hn)
 have x7 : Hid (Ba V7 w14.heap.size g7 A7 n7 c7 xs7) := hI ⟨hx, s7_15.out⟩
 clear hx hn hW B14 xb1_14 xb3_14 s7_14
 clear s7_15
 generalize w14.heap.size = b7 at *
 refine (of_c (9) (4) _ (by decide) (by decide) (by decide) (by decide)).mono ?_
 rintro e w16 ⟨p9, rfl, hi, hop9, hdp9, hb⟩
 have B16 := hI (zA B15.out B15.out.size hb)
 have xb1_16 : Hid (Rb w16 b1 tb1) := hI (xb1_15.out.on hb)
 have xb3_16 : Hid (Rb w16 b3 tb3) := hI (xb3_15.out.on hb)
 have x7_16 : Hid (Ba w16 b7 g7 A7 n7 c7 xs7) := hI (x7.out.on hb)
 have ip9_16 : Hid (p9.In w16) := hI hi
 clear hb B15 xb1_15 xb3_15 x7 hi
 have Op9 := hI (And.intro hop9 hdp9)
 clear hop9 hdp9
 go_wp2_with fail
 refine (sqrt_c ip9_16.out Op9.out.1 Op9.out.2).mono ?_
 rintro e w17 ⟨tb9, rfl, hi, hot, hdt, hb⟩
 have B17 := hI (zA B16.out B16.out.size hb)
 have xb1_17 : Hid (Rb w17 b1 tb1) := hI (xb1_16.out.on hb)
 have xb3_17 : Hid (Rb w17 b3 tb3) := hI (xb3_16.out.on hb)
 have x7_17 : Hid (Ba w17 b7 g7 A7 n7 c7 xs7) := hI (x7_16.out.on hb)
 have ip9_17 : Hid (p9.In w17) := hI (ip9_16.out.on hb)
 have itb9_17 : Hid (tb9.In w17) := hI hi
 clear hb B16 xb1_16 xb3_16 x7_16 ip9_16 hi
 have Otb9 := hI (And.intro hot hdt)
 clear hot hdt
 clear ip9_17
 go_wp2_with fail
 generalize hW : World.alloc w17 _ = V18
 have hn := zA0 w17 (.cells #[.bool tb9.g, .slice tb9.A tb9.n tb9.c, .bool tb9.gd, .slice tb9.Ad tb9.nd tb9.cd] 26)
 have hx := Rb.new itb9_17.out
 rw [hW] at hn hx
 have B18 := hI (zA B17.out B17.out.size hn)
 have xb1_18 : Hid (Rb V18 b1 tb1) := hI (xb1_17.out.on hn)
 have xb3_18 : Hid (Rb V18 b3 tb3) := hI (xb3_17.out.on hn)
 have x7_18 : Hid (Ba V18 b7 g7 A7 n7 c7 xs7) := hI (x7_17.out.on hn)
 have itb9_18 : Hid (tb9.In V18) := hI (itb9_17.out.on hn)
 have xb9_18 := hI hx
 clear hx hn hW B17 xb1_17 xb3_17 x7_17 itb9_17
 generalize w17.heap.size = b9 at *
 clear itb9_18
 refine (of_c (1) (3) _ (by decide) (by decide) (by decide) (by decide)).mono ?_
 rintro e w19 ⟨pb12, rfl, hi, hopb12, hdpb12, hb⟩
 have B19 := hI (zA B18.out B18.out.size hb)
 have xb1_19 : Hid (Rb w19 b1 tb1) := hI (xb1_18.out.on hb)
 have xb3_19 : Hid (Rb w19 b3 tb3) := hI (xb3_18.out.on hb)
 have x7_19 : Hid (Ba w19 b7 g7 A7 n7 c7 xs7) := hI (x7_18.out.on hb)
 have xb9_19 : Hid (Rb w19 b9 tb9) := hI (xb9_18.out.on hb)
 have ipb12_19 : Hid (pb12.In w19) := hI hi
 clear hb B18 xb1_18 xb3_18 x7_18 xb9_18 hi
 have Opb12 := hI (And.intro hopb12 hdpb12)
 clear hopb12 hdpb12
 go_wp2_with fail
 refine (of_c (1) (2) _ (by decide) (by decide) (by decide) (by decide)).mono ?_
 rintro e w20 ⟨qb12, rfl, hi, hoqb12, hdqb12, hb⟩
 have B20 := hI (zA B19.out B19.out.size hb)
 have xb1_20 : Hid (Rb w20 b1 tb1) := hI (xb1_19.out.on hb)
 have xb3_20 : Hid (Rb w20 b3 tb3) := hI (xb3_19.out.on hb)
 have x7_20 : Hid (Ba w20 b7 g7 A7 n7 c7 xs7) := hI (x7_19.out.on hb)
 have xb9_20 : Hid (Rb w20 b9 tb9) := hI (xb9_19.out.on hb)
 have ipb12_20 : Hid (pb12.In w20) := hI (ipb12_19.out.on hb)
 have iqb12_20 : Hid (qb12.In w20) := hI hi
 clear hb B19 xb1_19 xb3_19 x7_19 xb9_19 ipb12_19 hi
 have Oqb12 := hI (And.intro hoqb12 hdqb12)
 clear hoqb12 hdqb12
 go_wp2_with fail
 refine (simplest_third _ _ _ ipb12_20.out iqb12_20.out Opb12.out.1 Opb12.out.2 Oqb12.out.1 Oqb12.out.2).mono ?_
 rintro e w21 ⟨tb12, rfl, hi, hot, hdt, hb⟩
 have B21 := hI (zA B20.out B20.out.size hb)
 have xb1_21 : Hid (Rb w21 b1 tb1) := hI (xb1_20.out.on hb)
 have xb3_21 : Hid (Rb w21 b3 tb3) := hI (xb3_20.out.on hb)
 have x7_21 : Hid (Ba w21 b7 g7 A7 n7 c7 xs7) := hI (x7_20.out.on hb)
 have xb9_21 : Hid (Rb w21 b9 tb9) := hI (xb9_20.out.on hb)
 have ipb12_21 : Hid (pb12.In w21) := hI (ipb12_20.out.on hb)
 have iqb12_21 : Hid (qb12.In w21) := hI (iqb12_20.out.on hb)
 have itb12_21 : Hid (tb12.In w21) := hI hi
 clear hb B20 xb1_20 xb3_20 x7_20 xb9_20 ipb12_20 iqb12_20 hi
 have Otb12 := hI (And.intro hot hdt)
 clear hot hdt
 clear ipb12_21 iqb12_21
 go_wp2_with fail
 generalize hW : World.alloc w21 _ = V22
 have hn := zA0 w21 (.cells #[.bool tb12.g, .slice tb12.A tb12.n tb12.c, .bool tb12.gd, .slice tb12.Ad tb12.nd tb12.cd] 26)
 have hx := Rb.new itb12_21.out
 rw [hW] at hn hx
 have B22 := hI (zA B21.out B21.out.size hn)
 have xb1_22 : Hid (Rb V22 b1 tb1) := hI (xb1_21.out.on hn)
 have xb3_22 : Hid (Rb V22 b3 tb3) := hI (xb3_21.out.on hn)
 have x7_22 : Hid (Ba V22 b7 g7 A7 n7 c7 xs7) := hI (x7_21.out.on hn)
 have xb9_22 : Hid (Rb V22 b9 tb9) := hI (xb9_21.out.on hn)
 have itb12_22 : Hid (tb12.In V22) := hI (itb12_21.out.on hn)
 have xb12_22 := hI hx
 clear hx hn hW B21 xb1_21 xb3_21 x7_21 xb9_21 itb12_21
 generalize w21.heap.size = b12 at *
 clear itb12_22
 refine (of_c (-3) (4) _ (by decide) (by decide) (by decide) (by decide)).mono ?_
 rintro e w23 ⟨p14, rfl, hi, hop14, hdp14, hb⟩
 have B23 := hI (zA B22.out B22.out.size hb)
 have xb1_23 : Hid (Rb w23 b1 tb1) := hI (xb1_22.out.on hb)
 have xb3_23 : Hid (Rb w23 b3 tb3) := hI (xb3_22.out.on hb)
 have x7_23 : Hid (Ba w23 b7 g7 A7 n7 c7 xs7) := hI (x7_22.out.on hb)
 have xb9_23 : Hid (Rb w23 b9 tb9) := hI (xb9_22.out.on hb)
 have xb12_23 : Hid (Rb w23 b12 tb12) := hI (xb12_22.out.on hb)
 have ip14_23 : Hid (p14.In w23) := hI hi
 clear hb B22 xb1_22 xb3_22 x7_22 xb9_22 xb12_22 hi
 have Op14 := hI (And.intro hop14 hdp14)
 clear hop14 hdp14
 go_wp2_with fail
 refine (text_c1 ip14_23.out Op14.out.1 Op14.out.2).mono ?_
 rintro e w24 ⟨rfl, hb⟩
 have B24 := hI (zA B23.out B23.out.size hb)
 have xb1_24 : Hid (Rb w24 b1 tb1) := hI (xb1_23.out.on hb)
 have xb3_24 : Hid (Rb w24 b3 tb3) := hI (xb3_23.out.on hb)
 have x7_24 : Hid (Ba w24 b7 g7 A7 n7 c7 xs7) := hI (x7_23.out.on hb)
 have xb9_24 : Hid (Rb w24 b9 tb9) := hI (xb9_23.out.on hb)
 have xb12_24 : Hid (Rb w24 b12 tb12) := hI (xb12_23.out.on hb)
 have ip14_24 : Hid (p14.In w24) := hI (ip14_23.out.on hb)
 clear hb B23 xb1_23 xb3_23 x7_23 xb9_23 xb12_23 ip14_23
 clear ip14_24
 go_wp2_with fail
 refine (parse_c _).mono ?_
 rintro e w25 ⟨t16, rfl, hi, hot, hdt, hb⟩
 have B25 := hI (zA B24.out B24.out.size hb)
 have xb1_25 : Hid (Rb w25 b1 tb1) := hI (xb1_24.out.on hb)
 have xb3_25 : Hid (Rb w25 b3 tb3) := hI (xb3_24.out.on hb)
 have x7_25 : Hid (Ba w25 b7 g7 A7 n7 c7 xs7) := hI (x7_24.out.on hb)
 have xb9_25 : Hid (Rb w25 b9 tb9) := hI (xb9_24.out.on hb)
 have xb12_25 : Hid (Rb w25 b12 tb12) := hI (xb12_24.out.on hb)
 have it16_25 : Hid (t16.In w25) := hI hi
 clear hb B24 xb1_24 xb3_24 x7_24 xb9_24 xb12_24 hi
 clear hot hdt
 have K := xb12_25.out
 have kb0 := (K.on (zA0 _ (.cells #[.bool t16.g, .slice t16.A t16.n t16.c, .bool t16.gd, .slice t16.Ad t16.nd t16.cd] 26))).c0
 have kb1 := (K.on (zA0 _ (.cells #[.bool t16.g, .slice t16.A t16.n t16.c, .bool t16.gd, .slice t16.Ad t16.nd t16.cd] 26))).c1
 have kb2 := (K.on (zA0 _ (.cells #[.bool t16.g, .slice t16.A t16.n t16.c, .bool t16.gd, .slice t16.Ad t16.nd t16.cd] 26))).c2
 have kb3 := (K.on (zA0 _ (.cells #[.bool t16.g, .slice t16.A t16.n t16.c, .bool t16.gd, .slice t16.Ad t16.nd t16.cd] 26))).c3
 clear K
 go_wp2_with fail
 generalize hW : World.alloc w25 _ = V26
 have hn := zA0 w25 (.cells #[.bool t16.g, .slice t16.A t16.n t16.c, .bool t16.gd, .slice t16.Ad t16.nd t16.cd] 26)
 have hx := Rb.new it16_25.out
 rw [hW] at hn hx
 have B26 := hI (zA B25.out B25.out.size hn)
 have xb1_26 : Hid (Rb V26 b1 tb1) := hI (xb1_25.out.on hn)
 have xb3_26 : Hid (Rb V26 b3 tb3) := hI (xb3_25.out.on hn)
 have x7_26 : Hid (Ba V26 b7 g7 A7 n7 c7 xs7) := hI (x7_25.out.on hn)
 have xb9_26 : Hid (Rb V26 b9 tb9) := hI (xb9_25.out.on hn)
 have xb12_26 : Hid (Rb V26 b12 tb12) := hI (xb12_25.out.on hn)
 have it16_26 : Hid (t16.In V26) := hI (it16_25.out.on hn)
 clear hx hn hW B25 xb1_25 xb3_25 x7_25 xb9_25 xb12_25 it16_25
 clear it16_26
 clear kb0 kb1 kb2 kb3
 refine (text_c2 xb12_26.out.sl Otb12.out.1 Otb12.out.2).mono ?_
 rintro e w27 ⟨rfl, hb⟩
 have B27 := hI (zA B26.out B26.out.size hb)
 have xb1_27 : Hid (Rb w27 b1 tb1) := hI (xb1_26.out.on hb)
 have xb3_27 : Hid (Rb w27 b3 tb3) := hI (xb3_26.out.on hb)
 have x7_27 : Hid (Ba w27 b7 g7 A7 n7 c7 xs7) := hI (x7_26.out.on hb)
 have xb9_27 : Hid (Rb w27 b9 tb9) := hI (xb9_26.out.on hb)
 have xb12_27 : Hid (Rb w27 b12 tb12) := hI (xb12_26.out.on hb)
 clear hb B26 xb1_26 xb3_26 x7_26 xb9_26 xb12_26
 go_wp2_with fail
 have S0 : Hid (SaneW w b1 b3 b7 b9 tb1 tb3 tb9 g7 A7 n7 c7 xs7 w27.drew) := hI ⟨xb1_27.out.drew, xb3_27.out.drew, ⟨x7_27.out.bx.drew, x7_27.out.sl.drew⟩, xb9_27.out.drew, B27.out.drew⟩
 have ka0 := xb1_27.out.c0
 have ka1 := xb1_27.out.c1
 have ka2 := xb1_27.out.c2
 have ka3 := xb1_27.out.c3
 have kb0 := xb3_27.out.c0
 have kb1 := xb3_27.out.c1
 have kb2 := xb3_27.out.c2
 have kb3 := xb3_27.out.c3
 have kd0 := xb9_27.out.c0
 have kd1 := xb9_27.out.c1
 have kd2 := xb9_27.out.c2
 have kd3 := xb9_27.out.c3
 have kc0 := x7_27.out.bx.c0
 have kc1 := x7_27.out.bx.c1
 dsimp only [List.append]
 go_region_held3 (fun w' => w'.cell? ⟨b1, 0, none⟩ = some (.bool tb1.g) /\ w'.cell? ⟨b1, 1, none⟩ = some (.slice tb1.A tb1.n tb1.c) /\ w'.cell? ⟨b1, 2, none⟩ = some (.bool tb1.gd) /\ w'.cell? ⟨b1, 3, none⟩ = some (.slice tb1.Ad tb1.nd tb1.cd) /\ w'.cell? ⟨b3, 0, none⟩ = some (.bool tb3.g) /\ w'.cell? ⟨b3, 1, none⟩ = some (.slice tb3.A tb3.n tb3.c) /\ w'.cell? ⟨b3, 2, none⟩ = some (.bool tb3.gd) /\ w'.cell? ⟨b3, 3, none⟩ = some (.slice tb3.Ad tb3.nd tb3.cd) /\ w'.cell? ⟨b9, 0, none⟩ = some (.bool tb9.g) /\ w'.cell? ⟨b9, 1, none⟩ = some (.slice tb9.A tb9.n tb9.c) /\ w'.cell? ⟨b9, 2, none⟩ = some (.bool tb9.gd) /\ w'.cell? ⟨b9, 3, none⟩ = some (.slice tb9.Ad tb9.nd tb9.cd) /\ w'.cell? ⟨b7, 0, none⟩ = some (.bool g7) /\ w'.cell? ⟨b7, 1, none⟩ = some (.slice A7 n7 c7)) (go_keep)
  (first
   | (go_at_call 7; have C := same_q tb9 z7 v7 S7.out.f4.sl Z7.out.1 _ _ Otb9.out.1 Otb9.out.2 Z7.out.2.1 Z7.out.2.2; (with_reducible refine C.mono ?_); clear C; rintro e v8 ⟨rfl, hb⟩; have S8 := hI (S7.out.on hb); clear hb ka0 ka1 ka2 ka3 kb0 kb1 kb2 kb3 kd0 kd1 kd2 kd3 kc0 kc1; have ka0 := S8.out.f1.c0; have ka1 := S8.out.f1.c1; have ka2 := S8.out.f1.c2; have ka3 := S8.out.f1.c3; have kb0 := S8.out.f2.c0; have kb1 := S8.out.f2.c1; have kb2 := S8.out.f2.c2; have kb3 := S8.out.f2.c3; have kd0 := S8.out.f4.c0; have kd1 := S8.out.f4.c1; have kd2 := S8.out.f4.c2; have kd3 := S8.out.f4.c3; have kc0 := S8.out.f3.bx.c0; have kc1 := S8.out.f3.bx.c1)
   | (go_at_call 9; have C := of_c (3) (2) v6 (by decide) (by decide) (by decide) (by decide); (with_reducible refine C.mono ?_); clear C; rintro e v7 ⟨z7, rfl, hi, hoz, hdz, hb⟩; have S7 := hI (S6.out.on hb); have Z7 := hI (And.intro hi (And.intro hoz hdz)); clear hi hoz hdz; clear hb ka0 ka1 ka2 ka3 kb0 kb1 kb2 kb3 kd0 kd1 kd2 kd3 kc0 kc1; have ka0 := S7.out.f1.c0; have ka1 := S7.out.f1.c1; have ka2 := S7.out.f1.c2; have ka3 := S7.out.f1.c3; have kb0 := S7.out.f2.c0; have kb1 := S7.out.f2.c1; have kb2 := S7.out.f2.c2; have kb3 := S7.out.f2.c3; have kd0 := S7.out.f4.c0; have kd1 := S7.out.f4.c1; have kd2 := S7.out.f4.c2; have kd3 := S7.out.f4.c3; have kc0 := S7.out.f3.bx.c0; have kc1 := S7.out.f3.bx.c1)
   | (go_at_call 15; have C := ints_yes _ _ _ _ _ _ _ _ _ _ v5 S5.out.f3.sl Z5.out.1 (zQ S5.out.f3.sl Z5.out.1 O7.out Z5.out.2).1 (zQ S5.out.f3.sl Z5.out.1 O7.out Z5.out.2).2; (with_reducible refine C.mono ?_); clear C; rintro e v6 ⟨rfl, hb⟩; have S6 := hI (S5.out.on hb); clear hb ka0 ka1 ka2 ka3 kb0 kb1 kb2 kb3 kd0 kd1 kd2 kd3 kc0 kc1; have ka0 := S6.out.f1.c0; have ka1 := S6.out.f1.c1; have ka2 := S6.out.f1.c2; have ka3 := S6.out.f1.c3; have kb0 := S6.out.f2.c0; have kb1 := S6.out.f2.c1; have kb2 := S6.out.f2.c2; have kb3 := S6.out.f2.c3; have kd0 := S6.out.f4.c0; have kd1 := S6.out.f4.c1; have kd2 := S6.out.f4.c2; have kd3 := S6.out.f4.c3; have kc0 := S6.out.f3.bx.c0; have kc1 := S6.out.f3.bx.c1)
   | (go_at_call 16; have C := int_c (-4) v4 (by decide); (with_reducible refine C.mono ?_); clear C; rintro e v5 ⟨g8, A8, n8, c8, xs8, rfl, hi, hoz, hb⟩; have S5 := hI (S4.out.on hb); have Z5 := hI (And.intro hi hoz); clear hi hoz; clear hb ka0 ka1 ka2 ka3 kb0 kb1 kb2 kb3 kd0 kd1 kd2 kd3 kc0 kc1; have ka0 := S5.out.f1.c0; have ka1 := S5.out.f1.c1; have ka2 := S5.out.f1.c2; have ka3 := S5.out.f1.c3; have kb0 := S5.out.f2.c0; have kb1 := S5.out.f2.c1; have kb2 := S5.out.f2.c2; have kb3 := S5.out.f2.c3; have kd0 := S5.out.f4.c0; have kd1 := S5.out.f4.c1; have kd2 := S5.out.f4.c2; have kd3 := S5.out.f4.c3; have kc0 := S5.out.f3.bx.c0; have kc1 := S5.out.f3.bx.c1)
   | (go_at_call 7; have C := same_q tb3 z3 v3 S3.out.f2.sl Z3.out.1 _ _ Otb3.out.1 Otb3.out.2 Z3.out.2.1 Z3.out.2.2; (with_reducible refine C.mono ?_); clear C; rintro e v4 ⟨rfl, hb⟩; have S4 := hI (S3.out.on hb); clear hb ka0 ka1 ka2 ka3 kb0 kb1 kb2 kb3 kd0 kd1 kd2 kd3 kc0 kc1; have ka0 := S4.out.f1.c0; have ka1 := S4.out.f1.c1; have ka2 := S4.out.f1.c2; have ka3 := S4.out.f1.c3; have kb0 := S4.out.f2.c0; have kb1 := S4.out.f2.c1; have kb2 := S4.out.f2.c2; have kb3 := S4.out.f2.c3; have kd0 := S4.out.f4.c0; have kd1 := S4.out.f4.c1; have kd2 := S4.out.f4.c2; have kd3 := S4.out.f4.c3; have kc0 := S4.out.f3.bx.c0; have kc1 := S4.out.f3.bx.c1)
   | (go_at_call 9; have C := of_c (-3) (2) v2 (by decide) (by decide) (by decide) (by decide); (with_reducible refine C.mono ?_); clear C; rintro e v3 ⟨z3, rfl, hi, hoz, hdz, hb⟩; have S3 := hI (S2.out.on hb); have Z3 := hI (And.intro hi (And.intro hoz hdz)); clear hi hoz hdz; clear hb ka0 ka1 ka2 ka3 kb0 kb1 kb2 kb3 kd0 kd1 kd2 kd3 kc0 kc1; have ka0 := S3.out.f1.c0; have ka1 := S3.out.f1.c1; have ka2 := S3.out.f1.c2; have ka3 := S3.out.f1.c3; have kb0 := S3.out.f2.c0; have kb1 := S3.out.f2.c1; have kb2 := S3.out.f2.c2; have kb3 := S3.out.f2.c3; have kd0 := S3.out.f4.c0; have kd1 := S3.out.f4.c1; have kd2 := S3.out.f4.c2; have kd3 := S3.out.f4.c3; have kc0 := S3.out.f3.bx.c0; have kc1 := S3.out.f3.bx.c1)
   | (go_at_call 7; have C := same_q tb1 z1 v1 S1.out.f1.sl Z1.out.1 _ _ Otb1.out.1 Otb1.out.2 Z1.out.2.1 Z1.out.2.2; (with_reducible refine C.mono ?_); clear C; rintro e v2 ⟨rfl, hb⟩; have S2 := hI (S1.out.on hb); clear hb ka0 ka1 ka2 ka3 kb0 kb1 kb2 kb3 kd0 kd1 kd2 kd3 kc0 kc1; have ka0 := S2.out.f1.c0; have ka1 := S2.out.f1.c1; have ka2 := S2.out.f1.c2; have ka3 := S2.out.f1.c3; have kb0 := S2.out.f2.c0; have kb1 := S2.out.f2.c1; have kb2 := S2.out.f2.c2; have kb3 := S2.out.f2.c3; have kd0 := S2.out.f4.c0; have kd1 := S2.out.f4.c1; have kd2 := S2.out.f4.c2; have kd3 := S2.out.f4.c3; have kc0 := S2.out.f3.bx.c0; have kc1 := S2.out.f3.bx.c1)
   | (go_at_call 9; have C := of_c (5) (6) w27.drew (by decide) (by decide) (by decide) (by decide); (with_reducible refine C.mono ?_); clear C; rintro e v1 ⟨z1, rfl, hi, hoz, hdz, hb⟩; have S1 := hI (S0.out.on hb); have Z1 := hI (And.intro hi (And.intro hoz hdz)); clear hi hoz hdz; clear hb ka0 ka1 ka2 ka3 kb0 kb1 kb2 kb3 kd0 kd1 kd2 kd3 kc0 kc1; have ka0 := S1.out.f1.c0; have ka1 := S1.out.f1.c1; have ka2 := S1.out.f1.c2; have ka3 := S1.out.f1.c3; have kb0 := S1.out.f2.c0; have kb1 := S1.out.f2.c1; have kb2 := S1.out.f2.c2; have kb3 := S1.out.f2.c3; have kd0 := S1.out.f4.c0; have kd1 := S1.out.f4.c1; have kd2 := S1.out.f4.c2; have kd3 := S1.out.f4.c3; have kc0 := S1.out.f3.bx.c0; have kc1 := S1.out.f3.bx.c1))
 go_wp2
 go_ret
 exact ⟨rfl, S8.out.f5⟩
end Go.Proofs.YtphinlongdoedaaGreat
