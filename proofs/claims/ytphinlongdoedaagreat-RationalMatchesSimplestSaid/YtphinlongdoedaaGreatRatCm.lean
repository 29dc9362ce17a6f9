/-
 Stage 2: Simplest between a third and a half, a course of the expansion known. Stage 2: the expansion of the continued fraction, for any two ends: its course, what it hands back, that this is the least. Stage 2: the comparison of rationals whose products are too long: by continued fractions. Stage 2: Cmp of two valid rationals, also where the products are too long: the sign of the difference.
-/
import Derived.Deep.LoopGhost
import Derived.Test.YtphinlongdoedaaGreatRatT
import Derived.Test.YtphinlongdoedaaGreatRatSc
namespace Go.Proofs.YtphinlongdoedaaGreat
open Go.RowKit
theorem zB8 {z : Int} (h : z.natAbs < 4294967296) : fitZ z = z /\ fitE z = 0 := zB1 (zH h)
theorem zP7 {a b : Int} (hb : 0 < b) (hg : gcdZ a b = 1) : rv (some a) (some b) = some (Rat.divInt a b) := by unfold rv; exact if_pos ⟨hb, hg⟩
def st3 : Nat -> Ex
 | 0 => ⟨1, 3, 1, 2, 0, 1, 1, 0⟩
 | 1 => ⟨2, 1, 3, 1, 1, 0, 0, 1⟩
 | _ => ⟨1, 1, 1, 0, 0, 1, 1, 2⟩
def qt3 : Nat -> Int
 | 0 => 0
 | 1 => 2
 | _ => 1
def rs3 : Nat -> Int
 | 0 => 1
 | _ => 0
theorem exR_of {a : Ex} {qt rs ab : Int} (q1 : dvQ (some a.n) (some a.d) = qt) (q2 : dvR (some a.n) (some a.d) = rs) (b1 : qt.natAbs < 4294967296) (b2 : rs.natAbs < 4294967296) (t : (qt * a.f).natAbs < 4294967296) (s : a.m - qt * a.f = ab) (sb : ab.natAbs < 4294967296) : ExR a qt rs ab :=
 ⟨q1, q2, zH b1, zH b2, (zB8 t).1, (zB8 t).2, by rw [s]; exact (zB8 sb).1, by rw [s]; exact (zB8 sb).2⟩
theorem exS_of {a b : Ex} {qt rs ab : Int} (ge : decide (Int.sign (a.f - ab) < 0) = false) (h1 : (qt * a.r).natAbs < 4294967296) (h2 : qt * a.r + a.p = b.r) (h3 : b.r.natAbs < 4294967296) (h4 : (qt * a.s).natAbs < 4294967296) (h5 : qt * a.s + a.q = b.s) (h6 : b.s.natAbs < 4294967296)
 (e1 : b.n = a.f) (e2 : b.d = ab) (e3 : b.m = a.d) (e4 : b.f = rs) (e5 : b.p = a.r) (e6 : b.q = a.s) : ExS a b qt rs ab :=
 ⟨ge, (zB8 h1).1, (zB8 h1).2, by rw [h2]; exact (zB8 h3).1, by rw [h2]; exact (zB8 h3).2, (zB8 h4).1, (zB8 h4).2, by rw [h5]; exact (zB8 h6).1, by rw [h5]; exact (zB8 h6).2, e1, e2, e3, e4, e5, e6⟩
theorem expand_third (q q' : RVal) (w : World) (h : q.In w) (h' : q'.In w) (o1 : q.o = some 1) (o2 : q.od = some 3) (o3 : q'.o = some 1) (o4 : q'.od = some 2) :
 Calls Tryz.prog 18 #[.agg #[.bool q.g, .slice q.A q.n q.c, .bool q.gd, .slice q.Ad q.nd q.cd], .agg #[.bool q'.g, .slice q'.A q'.n q'.c, .bool q'.gd, .slice q'.Ad q'.nd q'.cd]] w (RetR 2 5 0 w) := by
 refine zN9 q q' w h h' 2 st3 qt3 rs3 (fun _ => 1) o1 o2 o3 o4 rfl rfl rfl rfl ?_ ?_ (by decide) 2 2 2 4 5 0 0 0 0 0 2 5 ⟨fun _ => ⟨rfl, rfl⟩, fun k => absurd rfl k⟩ ?_ ?_ ?_ ?_ ?_ ?_ ?_ ?_ ?_ ?_
 . refine hI (fun k hk => ?_)
   match k, hk with
   | 0, _ => exact exR_of (by decide) (by decide) (by decide) (by decide) (by decide) (by decide) (by decide)
   | 1, _ => exact exR_of (by decide) (by decide) (by decide) (by decide) (by decide) (by decide) (by decide)
   | 2, _ => exact exR_of (by decide) (by decide) (by decide) (by decide) (by decide) (by decide) (by decide)
 . refine hI (fun k hk => ?_)
   match k, hk with
   | 0, _ => exact exS_of (by decide) (by decide) (by decide) (by decide) (by decide) (by decide) (by decide) rfl rfl rfl rfl rfl rfl
   | 1, _ => exact exS_of (by decide) (by decide) (by decide) (by decide) (by decide) (by decide) (by decide) rfl rfl rfl rfl rfl rfl
 all_goals first | exact (zB8 (z := 2) (by decide)).1 | exact zC8 (zB8 (z := 2) (by decide)).2 | exact (zB8 (z := 4) (by decide)).1 | exact zC8 (zB8 (z := 4) (by decide)).2 | exact (zB8 (z := 5) (by decide)).1 | exact zC8 (zB8 (z := 5) (by decide)).2
theorem simplest_third (q q' : RVal) (w : World) (h : q.In w) (h' : q'.In w) (o1 : q.o = some 1) (o2 : q.od = some 3) (o3 : q'.o = some 1) (o4 : q'.od = some 2) :
 Calls Tryz.prog 5 #[.agg #[.bool q.g, .slice q.A q.n q.c, .bool q.gd, .slice q.Ad q.nd q.cd], .agg #[.bool q'.g, .slice q'.A q'.n q'.c, .bool q'.gd, .slice q'.Ad q'.nd q'.cd]] w (RetR 2 5 0 w) := by
 obtain ⟨x, hx⟩ : ∃ x, rv (some 1) (some 3) = some x := ⟨_, zP7 (by decide) (by decide)⟩
 obtain ⟨y, hy⟩ : ∃ x, rv (some 1) (some 2) = some x := ⟨_, zP7 (by decide) (by decide)⟩
 refine zM4 q q' w h h' (fun w' h h' => ?_) (zK2 (a := 1) o1).symm 2 5 0 (fun w' h h' => expand_third q q' w' h h' o1 o2 o3 o4)
 exact rcm_short q q' w' h h' x y (by rw [o1, o2]; exact hx) (by rw [o3, o4]; exact hy) 1 3 1 2 2 3 0 0 o1 o2 o3 o4 (zB8 (z := 2) (by decide)).1 (zB8 (z := 3) (by decide)).1 (zC8 (zB8 (z := 2) (by decide)).2) (zC8 (zB8 (z := 3) (by decide)).2) rfl (-1) (by decide)
end Go.Proofs.YtphinlongdoedaaGreat
namespace Go.Proofs.YtphinlongdoedaaGreat
open Go.RowKit
def Ex.qt (x : Ex) : Int := x.n / x.d
def Ex.rs (x : Ex) : Int := x.n % x.d
def Ex.ab (x : Ex) : Int := x.m - x.qt * x.f
def Ex.next (x : Ex) : Ex := ⟨x.f, x.ab, x.d, x.rs, x.r, x.s, x.qt * x.r + x.p, x.qt * x.s + x.q⟩
def Ex.at (x : Ex) : Nat -> Ex
 | 0 => x
 | k + 1 => (x.at k).next
structure Btw (x : Ex) (T U : Int) : Prop where
 u : 0 < U
 lo : x.n * U < T * x.d
 hi : T * x.f < x.m * U
structure Inv (x : Ex) : Prop where
 n0 : 0 <= x.n
 d0 : 0 < x.d
 m0 : 0 <= x.m
 f0 : 0 <= x.f
 lt : x.n * x.f < x.m * x.d
 p0 : 0 <= x.p
 q0 : 0 <= x.q
 r0 : 0 <= x.r
 s0 : 0 <= x.s
 pq : 1 <= x.p + x.q
 rs : 1 <= x.r + x.s
 nb : x.n.natAbs < BIG
 db : x.d.natAbs < BIG
 mb : x.m.natAbs < BIG
 fb : x.f.natAbs < BIG
 b1 : (x.r * x.n + x.p * x.d).natAbs < BIG
 b2 : (x.s * x.n + x.q * x.d).natAbs < BIG
 b3 : (x.r * x.m + x.p * x.f).natAbs < BIG
 b4 : (x.s * x.m + x.q * x.f).natAbs < BIG
 det : x.r * x.q - x.p * x.s = 1 \/ x.r * x.q - x.p * x.s = -1
section
variable {x : Ex}
theorem Ex.div (h : 0 < x.d) : x.d * x.qt + x.rs = x.n /\ 0 <= x.rs /\ x.rs < x.d := ⟨Int.mul_ediv_add_emod _ _, Int.emod_nonneg _ (by omega), Int.emod_lt_of_pos _ h⟩
theorem Inv.qt0 (h : Inv x) : 0 <= x.qt := Int.ediv_nonneg h.n0 (Int.le_of_lt h.d0)
theorem Inv.qtf (h : Inv x) : x.qt * x.f < x.m := by
 have e := Ex.div h.d0
 have a : x.d * (x.qt * x.f) <= x.n * x.f := by
  have k : (x.d * x.qt) * x.f <= x.n * x.f := Int.mul_le_mul_of_nonneg_right (by omega) h.f0
  rwa [Int.mul_assoc] at k
 have b : x.d * (x.qt * x.f) < x.d * x.m := by have := h.lt; rw [Int.mul_comm x.d x.m]; omega
 exact Int.lt_of_mul_lt_mul_left b (Int.le_of_lt h.d0)
theorem Inv.ab0 (h : Inv x) : 0 < x.ab := by have := h.qtf; unfold Ex.ab; omega
theorem zO9 {a b : Int} (h0 : 0 <= a) (h : a <= b) (hb : b.natAbs < BIG) : a.natAbs < BIG := by omega
theorem Inv.next (h : Inv x) : Inv x.next := by
 have e := Ex.div h.d0
 have q0 := h.qt0
 have ab0 := h.ab0
 have qf : 0 <= x.qt * x.f := Int.mul_nonneg q0 h.f0
 have qr : 0 <= x.qt * x.r := Int.mul_nonneg q0 h.r0
 have qs : 0 <= x.qt * x.s := Int.mul_nonneg q0 h.s0
 have hab : x.ab = x.m - x.qt * x.f := rfl
 refine ⟨h.f0, ab0, Int.le_of_lt h.d0, e.2.1, ?_, h.r0, h.s0, ?_, ?_, h.rs, ?_, h.fb, ?_, h.db, ?_, ?_, ?_, ?_, ?_, ?_⟩
 . show x.f * x.rs < x.d * x.ab
   have k : x.d * x.ab - x.f * x.rs = x.m * x.d - x.n * x.f := by rw [hab]; have := e.1; grind
   have := h.lt
   omega
 . show 0 <= x.qt * x.r + x.p
   have := h.p0; omega
 . show 0 <= x.qt * x.s + x.q
   have := h.q0; omega
 . show 1 <= x.qt * x.r + x.p + (x.qt * x.s + x.q)
   have := h.pq; omega
 . show x.ab.natAbs < BIG
   exact zO9 (Int.le_of_lt ab0) (by omega : x.ab <= x.m) h.mb
 . show x.rs.natAbs < BIG
   exact zO9 e.2.1 (by omega : x.rs <= x.d) h.db
 . show ((x.qt * x.r + x.p) * x.f + x.r * x.ab).natAbs < BIG
   have k : (x.qt * x.r + x.p) * x.f + x.r * x.ab = x.r * x.m + x.p * x.f := by rw [hab]; grind
   rw [k]; exact h.b3
 . show ((x.qt * x.s + x.q) * x.f + x.s * x.ab).natAbs < BIG
   have k : (x.qt * x.s + x.q) * x.f + x.s * x.ab = x.s * x.m + x.q * x.f := by rw [hab]; grind
   rw [k]; exact h.b4
 . show ((x.qt * x.r + x.p) * x.d + x.r * x.rs).natAbs < BIG
   have k : (x.qt * x.r + x.p) * x.d + x.r * x.rs = x.r * x.n + x.p * x.d := by have := e.1; grind
   rw [k]; exact h.b1
 . show ((x.qt * x.s + x.q) * x.d + x.s * x.rs).natAbs < BIG
   have k : (x.qt * x.s + x.q) * x.d + x.s * x.rs = x.s * x.n + x.q * x.d := by have := e.1; grind
   rw [k]; exact h.b2
 . show (x.qt * x.r + x.p) * x.s - x.r * (x.qt * x.s + x.q) = 1 \/ (x.qt * x.r + x.p) * x.s - x.r * (x.qt * x.s + x.q) = -1
   have k : (x.qt * x.r + x.p) * x.s - x.r * (x.qt * x.s + x.q) = -(x.r * x.q - x.p * x.s) := by grind
   rw [k]
   rcases h.det with d | d
   . right; omega
   . left; omega
theorem Inv.at (h : Inv x) : ∀ k, Inv (x.at k)
 | 0 => h
 | k + 1 => (Inv.at h k).next
theorem Btw.next (h : Inv x) {T U : Int} (b : Btw x T U) : ∃ R : Int, T = x.qt * U + R /\ Btw x.next U R := by
 have e := Ex.div h.d0
 have hab : x.ab = x.m - x.qt * x.f := rfl
 refine ⟨T - x.qt * U, by omega, ?_, ?_, ?_⟩
 . -- T > qt U
   have a : x.d * (x.qt * U) <= x.n * U := by
    have k : (x.d * x.qt) * U <= x.n * U := Int.mul_le_mul_of_nonneg_right (by omega) (Int.le_of_lt b.u)
    rwa [Int.mul_assoc] at k
   have c : x.d * (x.qt * U) < x.d * T := by have := b.lo; rw [Int.mul_comm x.d T]; omega
   have := Int.lt_of_mul_lt_mul_left c (Int.le_of_lt h.d0)
   omega
 . show x.f * (T - x.qt * U) < U * x.ab
   have k : U * x.ab - x.f * (T - x.qt * U) = x.m * U - T * x.f := by rw [hab]; grind
   have := b.hi
   omega
 . show U * x.rs < x.d * (T - x.qt * U)
   have k : x.d * (T - x.qt * U) - U * x.rs = T * x.d - x.n * U := by have := e.1; grind
   have := b.lo
   omega
theorem Btw.back (h : Inv x) {U R : Int} (b : Btw x.next U R) (hU : 0 < U) : Btw x (x.qt * U + R) U := by
 have e := Ex.div h.d0
 have hab : x.ab = x.m - x.qt * x.f := rfl
 have b1 : x.f * R < U * x.ab := b.lo
 have b2 : U * x.rs < x.d * R := b.hi
 refine ⟨hU, ?_, ?_⟩
 . have k : (x.qt * U + R) * x.d - x.n * U = x.d * R - U * x.rs := by have := e.1; grind
   omega
 . have k : x.m * U - (x.qt * U + R) * x.f = U * x.ab - x.f * R := by rw [hab]; grind
   omega
theorem ends : ∀ (M : Nat) (x : Ex), Inv x -> (x.d + x.f).toNat <= M -> ∃ K, (∀ k, k < K -> (x.at k).ab <= (x.at k).f) /\ (x.at K).f < (x.at K).ab
 | 0, x, h, hM => by have := h.d0; have := h.f0; omega
 | M + 1, x, h, hM => by
   by_cases g : x.ab <= x.f
   . have e := Ex.div h.d0
     have h0 := h.ab0
     obtain ⟨K, k1, k2⟩ := ends M x.next h.next (by show (x.ab + x.rs).toNat <= M; omega)
     have sh : ∀ k, x.next.at k = x.at (k + 1) := fun k => by
      induction k with
      | zero => rfl
      | succ k ih => show (x.next.at k).next = (x.at (k + 1)).next; rw [ih]
     refine ⟨K + 1, fun k hk => ?_, by rw [<- sh]; exact k2⟩
     rcases k with _ | k
     . exact g
     . rw [<- sh]; exact k1 k (by omega)
   . exact ⟨0, fun k hk => absurd hk (Nat.not_lt_zero _), by show x.f < x.ab; omega⟩
theorem btw_at (h : Inv x) {T U : Int} (b : Btw x T U) : ∀ k, (∀ j, j < k -> (x.at j).ab <= (x.at j).f) -> ∃ T' U', Btw (x.at k) T' U' /\ (x.at k).r * T' + (x.at k).p * U' = x.r * T + x.p * U /\ (x.at k).s * T' + (x.at k).q * U' = x.s * T + x.q * U
 | 0, _ => ⟨T, U, b, rfl, rfl⟩
 | k + 1, hk => by
   obtain ⟨T', U', b', e1, e2⟩ := btw_at h b k (fun j hj => hk j (by omega))
   obtain ⟨R, eT, bn⟩ := b'.next (h.at k)
   refine ⟨U', R, bn, ?_, ?_⟩
   . show ((x.at k).qt * (x.at k).r + (x.at k).p) * U' + (x.at k).r * R = _
     rw [<- e1, eT]; grind
   . show ((x.at k).qt * (x.at k).s + (x.at k).q) * U' + (x.at k).s * R = _
     rw [<- e2, eT]; grind
theorem btw_back (h : Inv x) : ∀ k {T' U' : Int}, Btw (x.at k) T' U' -> 0 < T' -> ∃ T U, Btw x T U /\ x.r * T + x.p * U = (x.at k).r * T' + (x.at k).p * U' /\ x.s * T + x.q * U = (x.at k).s * T' + (x.at k).q * U'
 | 0, T', U', b, _ => ⟨T', U', b, rfl, rfl⟩
 | k + 1, T', U', b, hT => by
   have b' := Btw.back (h.at k) (U := T') (R := U') b hT
   have hpos : 0 < (x.at k).qt * T' + U' := by have := Int.mul_nonneg (h.at k).qt0 (Int.le_of_lt hT); have := b.u; omega
   obtain ⟨T, U, b2, e1, e2⟩ := btw_back h k b' hpos
   refine ⟨T, U, b2, ?_, ?_⟩
   . rw [e1]
     show _ = ((x.at k).qt * (x.at k).r + (x.at k).p) * T' + (x.at k).r * U'
     grind
   . rw [e2]
     show _ = ((x.at k).qt * (x.at k).s + (x.at k).q) * T' + (x.at k).s * U'
     grind
theorem Inv.exR (h : Inv x) : ExR x x.qt x.rs x.ab := by
 have e := Ex.div h.d0
 have q0 := h.qt0
 have qf : 0 <= x.qt * x.f := Int.mul_nonneg q0 h.f0
 have lt := h.qtf
 have h0 := h.ab0
 have f1 := zB1 (zO9 qf (Int.le_of_lt lt) h.mb)
 have hab : x.m - x.qt * x.f = x.ab := rfl
 have f2 := zB1 (zO9 (Int.le_of_lt h0) (by omega : x.ab <= x.m) h.mb)
 have dn : x.d ≠ 0 := by have := h.d0; omega
 have fm := fq_pos x.n x.d h.d0
 have sp := (zQ2 x.n x.d dn).1
 refine ⟨by rw [zH7, if_neg dn, fm]; rfl, ?_, ?_, ?_, f1.1, f1.2, by rw [hab]; exact f2.1, by rw [hab]; exact f2.2⟩
 . rw [zL8, if_neg dn]
   rw [fm] at sp
   have := Int.emod_add_mul_ediv x.n x.d
   rw [Int.mul_comm] at sp
   show fr x.n x.d = x.n % x.d
   omega
 . exact Nat.lt_of_le_of_lt (Int.natAbs_ediv_le_natAbs _ _) h.nb
 . exact zO9 e.2.1 (by omega : x.rs <= x.d) h.db
theorem Inv.exS (h : Inv x) (g : x.ab <= x.f) : ExS x x.next x.qt x.rs x.ab := by
 have q0 := h.qt0
 have qr : 0 <= x.qt * x.r := Int.mul_nonneg q0 h.r0
 have qs : 0 <= x.qt * x.s := Int.mul_nonneg q0 h.s0
 have n := h.next
 have c1 : (x.qt * x.r + x.p).natAbs < BIG := by
  have b := n.b3
  have k : (x.qt * x.r + x.p) <= (x.qt * x.r + x.p) * x.d + x.r * x.rs := by
   have k1 : (x.qt * x.r + x.p) * 1 <= (x.qt * x.r + x.p) * x.d := Int.mul_le_mul_of_nonneg_left (by have := h.d0; omega) (by have := h.p0; omega)
   have k2 : 0 <= x.r * x.rs := Int.mul_nonneg h.r0 (Ex.div h.d0).2.1
   omega
  exact zO9 (by have := h.p0; omega) k b
 have c2 : (x.qt * x.s + x.q).natAbs < BIG := by
  have b := n.b4
  have k : (x.qt * x.s + x.q) <= (x.qt * x.s + x.q) * x.d + x.s * x.rs := by
   have k1 : (x.qt * x.s + x.q) * 1 <= (x.qt * x.s + x.q) * x.d := Int.mul_le_mul_of_nonneg_left (by have := h.d0; omega) (by have := h.q0; omega)
   have k2 : 0 <= x.s * x.rs := Int.mul_nonneg h.s0 (Ex.div h.d0).2.1
   omega
  exact zO9 (by have := h.q0; omega) k b
 have d1 := zB1 (zO9 qr (by have := h.p0; omega : x.qt * x.r <= x.qt * x.r + x.p) c1)
 have d2 := zB1 (zO9 qs (by have := h.q0; omega : x.qt * x.s <= x.qt * x.s + x.q) c2)
 refine ⟨?_, d1.1, d1.2, (zB1 c1).1, (zB1 c1).2, d2.1, d2.2, (zB1 c2).1, (zB1 c2).2, rfl, rfl, rfl, rfl, rfl, rfl⟩
 rw [decide_eq_false_iff_not]
 intro k
 have := Int.sign_nonneg_iff.2 (by omega : 0 <= x.f - x.ab)
 omega
end
def Ex.of (n d m f : Int) : Ex := ⟨n, d, m, f, 0, 1, 1, 0⟩
theorem Inv.of {n d m f : Int} (n0 : 0 <= n) (d0 : 0 < d) (f0 : 0 < f) (lt : n * f < m * d) (nb : n.natAbs < BIG) (db : d.natAbs < BIG) (mb : m.natAbs < BIG) (fb : f.natAbs < BIG) : Inv (Ex.of n d m f) := by
 have hm : 0 <= m := by
  have a : 0 <= n * f := Int.mul_nonneg n0 (Int.le_of_lt f0)
  by_cases k : m < 0
  . have := Int.mul_neg_of_neg_of_pos k d0; omega
  . omega
 exact ⟨n0, d0, hm, Int.le_of_lt f0, lt, Int.le_refl _, (by show (0 : Int) <= 1; decide), (by show (0 : Int) <= 1; decide), Int.le_refl _, (by show (1 : Int) <= 0 + 1; decide), (by show (1 : Int) <= 1 + 0; decide), nb, db, mb, fb, by show (1 * n + 0 * d).natAbs < BIG; rw [Int.one_mul, Int.zero_mul, Int.add_zero]; exact nb, by show (0 * n + 1 * d).natAbs < BIG; rw [Int.one_mul, Int.zero_mul, Int.zero_add]; exact db, by show (1 * m + 0 * f).natAbs < BIG; rw [Int.one_mul, Int.zero_mul, Int.add_zero]; exact mb, by show (0 * m + 1 * f).natAbs < BIG; rw [Int.one_mul, Int.zero_mul, Int.zero_add]; exact fb, Or.inl rfl⟩
end Go.Proofs.YtphinlongdoedaaGreat
namespace Go.Proofs.YtphinlongdoedaaGreat
open Go.RowKit
set_option linter.unusedSimpArgs false
set_option maxRecDepth 20000
set_option maxHeartbeats 8000000
structure ClW (w0 : World) (r : Nat) (u : Int) (n d m f : Int) (qa qb : RVal) (wr : World) : Prop where
 ba : Rb wr r qa
 bb : Rb wr (r + 1) qb
 bel : Below r w0 wr
 o1 : qa.o = some n
 o2 : qa.od = some d
 o3 : qb.o = some m
 o4 : qb.od = some f
 pd : 0 < d
 pf : 0 < f
 sg : Int.sign (n * f - m * d) = u
section
variable {w0 : World} {r : Nat} {u n d m f : Int} {qa qb : RVal} {wr wr' : World}
theorem ClW.on (h : ClW w0 r u n d m f qa qb wr) (hb : Below wr.heap.size wr wr') (hr : r <= wr.heap.size) : ClW w0 r u n d m f qa qb wr' :=
 ⟨h.ba.on hb, h.bb.on hb, zA h.bel hr hb, h.o1, h.o2, h.o3, h.o4, h.pd, h.pf, h.sg⟩
theorem ClW.drew (h : ClW w0 r u n d m f qa qb wr) : ClW w0 r u n d m f qa qb wr.drew :=
 ⟨h.ba.drew, h.bb.drew, h.bel.drew, h.o1, h.o2, h.o3, h.o4, h.pd, h.pf, h.sg⟩
theorem ClW.step (h : ClW w0 r u n d m f qa qb wr) {q1 q2 : RVal} (h1 : q1.In wr) (h2 : q2.In wr) {N1 D1 N2 D2 : Int} (o1 : q1.o = some N1) (o2 : q1.od = some D1) (o3 : q2.o = some N2) (o4 : q2.od = some D2) (p1 : 0 < D1) (p2 : 0 < D2) (hs : Int.sign (N1 * D2 - N2 * D1) = u) :
 ClW w0 r u N1 D1 N2 D2 q1 q2 (put4 (put4 wr r q1.g (.slice q1.A q1.n q1.c) q1.gd (.slice q1.Ad q1.nd q1.cd)) (r + 1) q2.g (.slice q2.A q2.n q2.c) q2.gd (.slice q2.Ad q2.nd q2.cd)) := by
 have n1 : r + 1 ≠ r := by omega
 have e1 := h.ba.put h1
 have e2 := h.bb.pass h.ba n1 q1.g (.slice q1.A q1.n q1.c) q1.gd (.slice q1.Ad q1.nd q1.cd)
 have e3 := h.ba.put_in h2 q1.g (.slice q1.A q1.n q1.c) q1.gd (.slice q1.Ad q1.nd q1.cd)
 exact ⟨e1.pass e2 n1.symm _ _ _ _, e2.put e3, zA5 (zA5 h.bel (by omega) _ _ _ _) (by omega) _ _ _ _, o1, o2, o3, o4, p1, p2, hs⟩
end
theorem dv_pos {n d : Int} (hn : n.natAbs < BIG) (hd : 0 < d) (hd' : d.natAbs < BIG) : dvQ (some n) (some d) = n / d /\ dvR (some n) (some d) = n % d /\ (n / d).natAbs < BIG /\ (n % d).natAbs < BIG := by
 have h0 : d ≠ 0 := by omega
 have e := fq_pos n d hd
 have s := (zQ2 n d h0).1
 have hr : fr n d = n % d := by
  rw [e] at s
  have := Int.emod_add_mul_ediv n d
  rw [Int.mul_comm] at s
  omega
 refine ⟨by rw [zH7, if_neg h0, e], by rw [zL8, if_neg h0, hr], ?_, ?_⟩
 . have h1 := Int.emod_nonneg n h0
   have h2 := Int.emod_lt_of_pos n hd
   have h3 := Int.emod_add_mul_ediv n d
   have : (n / d).natAbs <= n.natAbs := Int.natAbs_ediv_le_natAbs n d
   omega
 . have h1 := Int.emod_nonneg n h0
   have h2 := Int.emod_lt_of_pos n hd
   omega
theorem cl_differ {n d m f q p r s u : Int} (hq : d * q + r = n) (hp : f * p + s = m) (r0 : 0 <= r) (r1 : r < d) (s0 : 0 <= s) (s1 : s < f) (h : Int.sign (n * f - m * d) = u) (hne : q ≠ p) : Int.sign (q - p) = u := by
 subst hq; subst hp; rw [<- h]
 have e : (d * q + r) * f - (f * p + s) * d = d * f * (q - p) + (r * f - s * d) := by grind
 rw [e]
 have hdf : 0 < d * f := Int.mul_pos (by omega) (by omega)
 have a1 : 0 <= r * f := Int.mul_nonneg r0 (by omega)
 have a2 : r * f < d * f := Int.mul_lt_mul_of_pos_right r1 (by omega)
 have a3 : 0 <= s * d := Int.mul_nonneg s0 (by omega)
 have a4 : s * d < d * f := by rw [Int.mul_comm d f]; exact Int.mul_lt_mul_of_pos_right s1 (by omega)
 rcases Int.lt_or_gt_of_ne hne with k | k
 . have k1 : d * f * (q - p) <= d * f * (-1) := Int.mul_le_mul_of_nonneg_left (by omega) (by omega)
   rw [Int.sign_eq_neg_one_of_neg (by omega), Int.sign_eq_neg_one_of_neg (by omega)]
 . have k1 : d * f * 1 <= d * f * (q - p) := Int.mul_le_mul_of_nonneg_left (by omega) (by omega)
   rw [Int.sign_eq_one_of_pos (by omega), Int.sign_eq_one_of_pos (by omega)]
theorem zQ6 {n d m f q p r s u : Int} (hq : d * q + r = n) (hp : f * p + s = m) (h : Int.sign (n * f - m * d) = u) (he : q = p) : Int.sign (f * r - d * s) = u := by
 subst hq; subst hp; subst he; rw [<- h]
 congr 1; grind
theorem cl_end {d f r s u : Int} (hd : 0 < d) (hf : 0 < f) (r0 : 0 <= r) (s0 : 0 <= s) (h : Int.sign (f * r - d * s) = u) (he : r = 0 \/ s = 0) : Int.sign (r - s) = u := by
 rw [<- h]
 have a1 : 0 <= f * r := Int.mul_nonneg (by omega) r0
 have a2 : 0 <= d * s := Int.mul_nonneg (by omega) s0
 rcases he with rfl | rfl
 . rcases Int.lt_or_eq_of_le s0 with k | k
   . have : 0 < d * s := Int.mul_pos hd k
     rw [Int.sign_eq_neg_one_of_neg (by omega), Int.sign_eq_neg_one_of_neg (by omega)]
   . subst k; simp
 . rcases Int.lt_or_eq_of_le r0 with k | k
   . have : 0 < f * r := Int.mul_pos hf k
     rw [Int.sign_eq_one_of_pos (by omega), Int.sign_eq_one_of_pos (by omega)]
   . subst k; simp
theorem ba_len {w : World} {r : Nat} {g : Bool} {A : Option Addr} {n c : Nat} {xs : List Nat} {z : Int} (h : Ba w r g A n c xs) (ho : ov g xs = some z) : (((n : Int) == 0) = decide (z = 0)) := by
 have hp := zG1 ho
 by_cases h0 : z = 0
 . rw [decide_eq_true h0]
   have hx : xs = [] := by
    rcases he : xs with _ | ⟨y, ys⟩
    . rfl
    . have := zB4 hp.1 (by rw [he]; simp)
      rw [hp.2.1, h0] at this
      simp at this
   have := h.sl.len
   rw [hx] at this
   simp at this
   simp
   omega
 . rw [decide_eq_false h0, beq_eq_false_iff_ne]
   intro e
   have : xs = [] := List.eq_nil_of_length_eq_zero (by rw [h.sl.len]; omega)
   rw [this] at hp
   have := hp.2.1
   simp [val] at this
   omega
theorem cmpLong_run (q q' : RVal) (w : World) (h : q.In w) (h' : q'.In w) (n0 d0 m0 f0 u : Int) (i1 : q.o = some n0) (i2 : q.od = some d0) (i3 : q'.o = some m0) (i4 : q'.od = some f0) (i5 : 0 < d0) (i6 : 0 < f0) (i7 : Int.sign (n0 * f0 - m0 * d0) = u) :
 Calls Tryz.prog 42 #[.agg #[.bool q.g, .slice q.A q.n q.c, .bool q.gd, .slice q.Ad q.nd q.cd], .agg #[.bool q'.g, .slice q'.A q'.n q'.c, .bool q'.gd, .slice q'.Ad q'.nd q'.cd]] w fun e w' => e = .returned (.int .i64 u) /\ Below w.heap.size w w' := by
 have HS := hI (And.intro h h')
 have HI := hI (And.intro i1 (And.intro i2 (And.intro i3 (And.intro i4 (And.intro i5 (And.intro i6 i7))))))
 clear h h' i1 i2 i3 i4 i5 i6 i7
 go_enter Tryz.func42, Tryz.ntmps42
 go_wp2_with fail
 generalize hW : World.alloc (World.alloc w _) _ = V
 obtain ⟨hb, ra, rb⟩ := zL3 q q' w V HS.out.1 HS.out.2 hW
 generalize hr : w.heap.size = r at *
 have HRr := hI hr
 have HX0 : Hid (ClW w r u n0 d0 m0 f0 q q' V) := hI ⟨ra, rb, hb, HI.out.1, HI.out.2.1, HI.out.2.2.1, HI.out.2.2.2.1, HI.out.2.2.2.2.1, HI.out.2.2.2.2.2.1, HI.out.2.2.2.2.2.2⟩
 clear hW hb hr ra rb
 go_loopg [7] (d0 + f0).toNat (fun gg s7 wr => ∃ (n d m f : Int) (qa qb : RVal) (v7 : Value), s7 = v7 /\ (d + f).toNat = gg /\ Hid (ClW w r u n d m f qa qb wr))
 case atStart => exact ⟨n0, d0, m0, f0, q, q', _, rfl, rfl, HX0⟩
 case round =>
  obtain ⟨n, d, m, f, qa, qb, v7, rfl, hk, HX⟩ := hrel
  clear HX0
  have HK := hI hk
  clear hk
  have HD := hI (dv_pos (zE7 HX.out.ba.sl.1.ok HX.out.o1) HX.out.pd (zE7 HX.out.ba.sl.2.ok HX.out.o2))
  have HF := hI (dv_pos (zE7 HX.out.bb.sl.1.ok HX.out.o3) HX.out.pf (zE7 HX.out.bb.sl.2.ok HX.out.o4))
  obtain ⟨qt, hqt⟩ : ∃ x, n / d = x := ⟨_, rfl⟩
  obtain ⟨rs, hrs⟩ : ∃ x, n % d = x := ⟨_, rfl⟩
  obtain ⟨pt, hpt⟩ : ∃ x, m / f = x := ⟨_, rfl⟩
  obtain ⟨ss, hss⟩ : ∃ x, m % f = x := ⟨_, rfl⟩
  have M := hI (show (d * qt + rs = n /\ 0 <= rs /\ rs < d) /\ f * pt + ss = m /\ 0 <= ss /\ ss < f from by
   have a1 := HX.out.pd
   have a2 := HX.out.pf
   rw [<- hqt, <- hrs, <- hpt, <- hss]
   exact ⟨⟨Int.mul_ediv_add_emod n d, Int.emod_nonneg n (by omega), Int.emod_lt_of_pos n a1⟩, Int.mul_ediv_add_emod m f, Int.emod_nonneg m (by omega), Int.emod_lt_of_pos m a2⟩)
  rw [hqt, hrs] at HD
  rw [hpt, hss] at HF
  clear hqt hrs hpt hss
  have rsz : r <= wr.heap.size := by have := HX.out.ba.lt; omega
  have p0 := HX.out.ba.c0
  have p1 := HX.out.ba.c1
  have p2 := HX.out.ba.c2
  have p3 := HX.out.ba.c3
  go_wp2_with fail
  have C := zK7 (neg := qa.g) (neg' := qa.gd) HX.out.ba.sl.1 HX.out.ba.sl.2
  rw [show ov qa.g qa.xs = some n from HX.out.o1, show ov qa.gd qa.ys = some d from HX.out.o2, HD.out.1, HD.out.2.1] at C
  refine C.mono ?_
  clear C p0 p1 p2 p3
  generalize dvE (some n) (some d) = er at *
  rintro e w2 ⟨A2, n2, c2, xs2, A3, n3, c3, xs3, rfl, hs2, hx2, hv2, hs3, hx3, hv3, hb2⟩
  have HX2 := hI (HX.out.on hb2 rsz)
  have O2 := hI (And.intro (zD5 hs2.ok hx2 hv2 HD.out.2.2.1) (zD5 hs3.ok hx3 hv3 HD.out.2.2.2))
  have S2 := hI (And.intro hs2 hs3)
  have rsz2 : r <= w2.heap.size := Nat.le_trans rsz hb2.size
  clear hs2 hx2 hv2 hs3 hx3 hv3 hb2 HX
  go_upto_region 2 with fail
  generalize hW : World.alloc (World.alloc w2 _) _ = V1
  obtain ⟨hb3, bq, br⟩ := zC0 (decide (qt < 0)) (decide (rs < 0)) A2 A3 n2 c2 n3 c3 xs2 xs3 w2 V1 S2.out.1 S2.out.2 hW
  have HX3 := hI (HX2.out.on hb3 rsz2)
  have Q3 := hI bq
  have R3 := hI br
  have rsz3 : r <= V1.heap.size := Nat.le_trans rsz2 hb3.size
  have lu : r + 1 < w2.heap.size := HX2.out.bb.lt
  clear hb3 bq br hW HX2 S2 rsz2
  generalize w2.heap.size = b1 at *
  have p0 := HX3.out.bb.c0
  have p1 := HX3.out.bb.c1
  have p2 := HX3.out.bb.c2
  have p3 := HX3.out.bb.c3
  go_wp2_with fail
  have C := zK7 (neg := qb.g) (neg' := qb.gd) HX3.out.bb.sl.1 HX3.out.bb.sl.2
  rw [show ov qb.g qb.xs = some m from HX3.out.o3, show ov qb.gd qb.ys = some f from HX3.out.o4, HF.out.1, HF.out.2.1] at C
  refine C.mono ?_
  clear C p0 p1 p2 p3
  generalize dvE (some m) (some f) = er2 at *
  rintro e w4 ⟨A4, n4, c4, xs4, A5, n5, c5, xs5, rfl, hs4, hx4, hv4, hs5, hx5, hv5, hb4⟩
  have HX4 := hI (HX3.out.on hb4 rsz3)
  have Q4 := hI (Q3.out.on hb4)
  have R4 := hI (R3.out.on hb4)
  have O4 := hI (And.intro (zD5 hs4.ok hx4 hv4 HF.out.2.2.1) (zD5 hs5.ok hx5 hv5 HF.out.2.2.2))
  have S4 := hI (And.intro hs4 hs5)
  have rsz4 : r <= w4.heap.size := Nat.le_trans rsz3 hb4.size
  clear hs4 hx4 hv4 hs5 hx5 hv5 hb4 HX3 Q3 R3
  go_upto_region 3 with fail
  generalize hW : World.alloc (World.alloc w4 _) _ = V2
  obtain ⟨hb5, bq, br⟩ := zC0 (decide (pt < 0)) (decide (ss < 0)) A4 A5 n4 c4 n5 c5 xs4 xs5 w4 V2 S4.out.1 S4.out.2 hW
  have HX5 := hI (HX4.out.on hb5 rsz4)
  have Q5 := hI (Q4.out.on hb5)
  have R5 := hI (R4.out.on hb5)
  have P5 := hI bq
  have T5 := hI br
  have rsz5 : r <= V2.heap.size := Nat.le_trans rsz4 hb5.size
  have lv : b1 + 1 < w4.heap.size := R4.out.bx.lt
  clear hb5 bq br hW HX4 Q4 R4 S4 rsz4
  generalize w4.heap.size = b2 at *
  have p0 := Q5.out.bx.c0
  have p1 := Q5.out.bx.c1
  have p2 := P5.out.bx.c0
  have p3 := P5.out.bx.c1
  go_wp2_with fail
  obtain ⟨c, hc⟩ : ∃ c, Int.sign (qt - pt) = c := ⟨_, rfl⟩
  have HC := hI hc
  clear hc
  refine (cmp_ov (neg := decide (qt < 0)) (neg' := decide (pt < 0)) Q5.out.sl P5.out.sl O2.out.1 O4.out.1 HC.out).mono ?_
  rintro e w6 ⟨rfl, hb6⟩
  have HX6 := hI (HX5.out.on hb6 rsz5)
  have R6 := hI (R5.out.on hb6)
  have T6 := hI (T5.out.on hb6)
  have rsz6 : r <= w6.heap.size := Nat.le_trans rsz5 hb6.size
  clear p0 p1 p2 p3 hb6 HX5 Q5 R5 P5 T5
  by_cases hne : qt = pt
  . have HE := hI hne
    have hc0 : c = 0 := by rw [<- HC.out, hne, Int.sub_self]; rfl
    subst hc0
    clear hne
    obtain ⟨z1, hz1⟩ : ∃ z, decide (rs = 0) = z := ⟨_, rfl⟩
    obtain ⟨z2, hz2⟩ : ∃ z, decide (ss = 0) = z := ⟨_, rfl⟩
    have g1 : ((n3 : Int) == 0) = z1 := (ba_len R6.out O2.out.2).trans hz1
    have g2 : ((n5 : Int) == 0) = z2 := (ba_len T6.out O4.out.2).trans hz2
    have HZ := hI (And.intro hz1 hz2)
    clear hz1 hz2
    have p0 := R6.out.bx.c0
    have p1 := R6.out.bx.c1
    have p2 := T6.out.bx.c0
    have p3 := T6.out.bx.c1
    have GO := hI (And.intro g1 g2)
    by_cases hz : (z1 || z2) = true
    . have hzz : rs = 0 \/ ss = 0 := by
       rcases z1 with _ | _
       . rcases z2 with _ | _
         . cases hz
         . exact Or.inr (of_decide_eq_true HZ.out.2)
       . exact Or.inl (of_decide_eq_true HZ.out.1)
      have HU := hI (cl_end HX6.out.pd HX6.out.pf M.out.1.2.1 M.out.2.2.1 (zQ6 M.out.1.1 M.out.2.1 HX6.out.sg HE.out) hzz)
      rcases z1 with _ | _ <;> rcases z2 with _ | _
      . cases hz
      all_goals
       clear hz hzz
       go_wp2_with fail
       refine (cmp_ov (neg := decide (rs < 0)) (neg' := decide (ss < 0)) R6.out.sl T6.out.sl O2.out.2 O4.out.2 HU.out).mono ?_
       rintro e w7 ⟨rfl, hb7⟩
       have HX7 := hI (HX6.out.on hb7 rsz6)
       clear p0 p1 p2 p3 hb7 g1 g2
       go_wp2
       go_ret
       exact ⟨rfl, by rw [HRr.out]; exact HX7.out.bel⟩
    . have hzf : z1 = false /\ z2 = false := by
       rcases z1 with _ | _
       . rcases z2 with _ | _
         . exact ⟨rfl, rfl⟩
         . exact absurd rfl hz
       . exact absurd rfl hz
      obtain ⟨rfl, rfl⟩ := hzf
      clear hz
      have HP := hI (show 0 < rs /\ 0 < ss from ⟨by have := of_decide_eq_false HZ.out.1; have := M.out.1.2.1; omega, by have := of_decide_eq_false HZ.out.2; have := M.out.2.2.1; omega⟩)
      go_upto_region 9 with fail
      clear g1 g2 p0 p1 p2 p3
      have p0 := HX6.out.ba.c0
      have p1 := HX6.out.ba.c1
      have p2 := HX6.out.ba.c2
      have p3 := HX6.out.ba.c3
      have pf0 := HX6.out.ba.f 0
      have pf1 := HX6.out.ba.f 1
      have pf2 := HX6.out.ba.f 2
      have pf3 := HX6.out.ba.f 3
      have n0 := HX6.out.bb.c0
      have n1x := HX6.out.bb.c1
      have n2x := HX6.out.bb.c2
      have n3x := HX6.out.bb.c3
      have nf0 := HX6.out.bb.f 0
      have nf1 := HX6.out.bb.f 1
      have nf2 := HX6.out.bb.f 2
      have nf3 := HX6.out.bb.f 3
      have p4 := R6.out.bx.c0
      have p5 := R6.out.bx.c1
      have p6 := T6.out.bx.c0
      have p7 := T6.out.bx.c1
      have z0 : b1 + 1 ≠ r := by omega
      have z1 := z0.symm
      have z2 : b1 + 1 ≠ r + 1 := by omega
      have z3 := z2.symm
      have z4 : b2 + 1 ≠ r := by omega
      have z5 := z4.symm
      have z6 : b2 + 1 ≠ r + 1 := by omega
      have z7 := z6.symm
      have hC : ∀ (i j : Nat) (w' : World), i <= j -> ((i = 0 -> w'.cell? ⟨r, 2, none⟩ = some (.bool qa.gd) /\ w'.cell? ⟨r, 3, none⟩ = some (.slice qa.Ad qa.nd qa.cd) /\ w'.cell? ⟨r + 1, 2, none⟩ = some (.bool qb.gd) /\ w'.cell? ⟨r + 1, 3, none⟩ = some (.slice qb.Ad qb.nd qb.cd) /\ w'.cell? ⟨b2 + 1, 0, none⟩ = some (.bool (decide (ss < 0))) /\ w'.cell? ⟨b2 + 1, 1, none⟩ = some (.slice A5 n5 c5)) /\ (i <= 1 -> w'.cell? ⟨b1 + 1, 0, none⟩ = some (.bool (decide (rs < 0))) /\ w'.cell? ⟨b1 + 1, 1, none⟩ = some (.slice A3 n3 c3))) -> ((j = 0 -> w'.cell? ⟨r, 2, none⟩ = some (.bool qa.gd) /\ w'.cell? ⟨r, 3, none⟩ = some (.slice qa.Ad qa.nd qa.cd) /\ w'.cell? ⟨r + 1, 2, none⟩ = some (.bool qb.gd) /\ w'.cell? ⟨r + 1, 3, none⟩ = some (.slice qb.Ad qb.nd qb.cd) /\ w'.cell? ⟨b2 + 1, 0, none⟩ = some (.bool (decide (ss < 0))) /\ w'.cell? ⟨b2 + 1, 1, none⟩ = some (.slice A5 n5 c5)) /\ (j <= 1 -> w'.cell? ⟨b1 + 1, 0, none⟩ = some (.bool (decide (rs < 0))) /\ w'.cell? ⟨b1 + 1, 1, none⟩ = some (.slice A3 n3 c3))) := fun i j w' hij h => ⟨fun e => h.1 (by omega), fun e => h.2 (by omega)⟩
      have hS : (fun w' : World => (w'.cell? ⟨r, 2, none⟩ = some (.bool qa.gd) /\ w'.cell? ⟨r, 3, none⟩ = some (.slice qa.Ad qa.nd qa.cd) /\ w'.cell? ⟨r + 1, 2, none⟩ = some (.bool qb.gd) /\ w'.cell? ⟨r + 1, 3, none⟩ = some (.slice qb.Ad qb.nd qb.cd) /\ w'.cell? ⟨b2 + 1, 0, none⟩ = some (.bool (decide (ss < 0))) /\ w'.cell? ⟨b2 + 1, 1, none⟩ = some (.slice A5 n5 c5)) /\ w'.cell? ⟨b1 + 1, 0, none⟩ = some (.bool (decide (rs < 0))) /\ w'.cell? ⟨b1 + 1, 1, none⟩ = some (.slice A3 n3 c3)) w6 := ⟨⟨p2, p3, n2x, n3x, p6, p7⟩, p4, p5⟩
      refine zH5 (fun j w' => (j = 0 -> w'.cell? ⟨r, 2, none⟩ = some (.bool qa.gd) /\ w'.cell? ⟨r, 3, none⟩ = some (.slice qa.Ad qa.nd qa.cd) /\ w'.cell? ⟨r + 1, 2, none⟩ = some (.bool qb.gd) /\ w'.cell? ⟨r + 1, 3, none⟩ = some (.slice qb.Ad qb.nd qb.cd) /\ w'.cell? ⟨b2 + 1, 0, none⟩ = some (.bool (decide (ss < 0))) /\ w'.cell? ⟨b2 + 1, 1, none⟩ = some (.slice A5 n5 c5)) /\ (j <= 1 -> w'.cell? ⟨b1 + 1, 0, none⟩ = some (.bool (decide (rs < 0))) /\ w'.cell? ⟨b1 + 1, 1, none⟩ = some (.slice A3 n3 c3))) (fun j => match j with | 1 => 0 | 2 => 0 | 3 => 0 | 5 => 0 | 9 => 2 | _ => 1) (by kernel_rfl) ?_
      have hS : (fun w' : World => (w'.cell? ⟨r, 2, none⟩ = some (.bool qa.gd) /\ w'.cell? ⟨r, 3, none⟩ = some (.slice qa.Ad qa.nd qa.cd) /\ w'.cell? ⟨r + 1, 2, none⟩ = some (.bool qb.gd) /\ w'.cell? ⟨r + 1, 3, none⟩ = some (.slice qb.Ad qb.nd qb.cd) /\ w'.cell? ⟨b2 + 1, 0, none⟩ = some (.bool (decide (ss < 0))) /\ w'.cell? ⟨b2 + 1, 1, none⟩ = some (.slice A5 n5 c5)) /\ w'.cell? ⟨b1 + 1, 0, none⟩ = some (.bool (decide (rs < 0))) /\ w'.cell? ⟨b1 + 1, 1, none⟩ = some (.slice A3 n3 c3)) w6.drew := by go_keep
      try dsimp only at hS
      refine zA7 hC 6 (v := .agg #[.bool (decide (rs < 0)), .slice A3 n3 c3]) rfl (by kernel_rfl) (by kernel_rfl) (by kernel_rfl) (by kernel_rfl) (fun _ _ _ h => h) (Or.inl ⟨by rfl, by (intro w' hSw; obtain ⟨fx0, fx1⟩ := hSw.2 (by decide); go_simp)⟩) ⟨fun _ => hS.1, fun _ => hS.2⟩ ?_
      try simp only [Act.put, List.setIfInBounds_toArray, List.set_cons_zero, List.set_cons_succ]
      refine zA7 hC 0 (v := .pointer (some ⟨r + 1, 2, none⟩)) rfl (by kernel_rfl) (by kernel_rfl) (by kernel_rfl) (by kernel_rfl) (fun _ _ _ h => h) (Or.inl ⟨by rfl, by (intro w' hSw; go_simp)⟩) ⟨fun _ => hS.1, fun _ => hS.2⟩ ?_
      try simp only [Act.put, List.setIfInBounds_toArray, List.set_cons_zero, List.set_cons_succ]
      refine zA7 hC 4 (v := .pointer (some ⟨r, 2, none⟩)) rfl (by kernel_rfl) (by kernel_rfl) (by kernel_rfl) (by kernel_rfl) (fun _ _ _ h => h) (Or.inl ⟨by rfl, by (intro w' hSw; go_simp)⟩) ⟨fun _ => hS.1, fun _ => hS.2⟩ ?_
      try simp only [Act.put, List.setIfInBounds_toArray, List.set_cons_zero, List.set_cons_succ]
      refine zA7 hC 5 (v := .agg #[.bool qa.gd, .slice qa.Ad qa.nd qa.cd]) rfl (by kernel_rfl) (by kernel_rfl) (by kernel_rfl) (by kernel_rfl) (fun _ _ _ h => h) (Or.inl ⟨by rfl, by (intro w' hSw; obtain ⟨fx0, fx1, fx2, fx3, fx4, fx5⟩ := hSw.1 rfl; go_simp)⟩) ⟨fun _ => hS.1, fun _ => hS.2⟩ ?_
      try simp only [Act.put, List.setIfInBounds_toArray, List.set_cons_zero, List.set_cons_succ]
      refine zA7 hC 7 (v := .agg #[.bool qa.gd, .slice qa.Ad qa.nd qa.cd, .bool (decide (rs < 0)), .slice A3 n3 c3]) rfl (by kernel_rfl) (by kernel_rfl) (by kernel_rfl) (by kernel_rfl) (fun _ _ _ h => h) (Or.inl ⟨by rfl, by (intro w' hSw; go_simp)⟩) ⟨fun _ => hS.1, fun _ => hS.2⟩ ?_
      try simp only [Act.put, List.setIfInBounds_toArray, List.set_cons_zero, List.set_cons_succ]
      refine zA7 hC 1 (v := .agg #[.bool qb.gd, .slice qb.Ad qb.nd qb.cd]) rfl (by kernel_rfl) (by kernel_rfl) (by kernel_rfl) (by kernel_rfl) (fun _ _ _ h => h) (Or.inl ⟨by rfl, by (intro w' hSw; obtain ⟨fx0, fx1, fx2, fx3, fx4, fx5⟩ := hSw.1 rfl; go_simp)⟩) ⟨fun _ => hS.1, fun _ => hS.2⟩ ?_
      try simp only [Act.put, List.setIfInBounds_toArray, List.set_cons_zero, List.set_cons_succ]
      refine zA7 hC 2 (v := .agg #[.bool (decide (ss < 0)), .slice A5 n5 c5]) rfl (by kernel_rfl) (by kernel_rfl) (by kernel_rfl) (by kernel_rfl) (fun _ _ _ h => h) (Or.inl ⟨by rfl, by (intro w' hSw; obtain ⟨fx0, fx1, fx2, fx3, fx4, fx5⟩ := hSw.1 rfl; go_simp)⟩) ⟨fun _ => hS.1, fun _ => hS.2⟩ ?_
      try simp only [Act.put, List.setIfInBounds_toArray, List.set_cons_zero, List.set_cons_succ]
      refine zA7 hC 3 (v := .agg #[.bool qb.gd, .slice qb.Ad qb.nd qb.cd, .bool (decide (ss < 0)), .slice A5 n5 c5]) rfl (by kernel_rfl) (by kernel_rfl) (by kernel_rfl) (by kernel_rfl) (fun _ _ _ h => h) (Or.inl ⟨by rfl, by (intro w' hSw; go_simp)⟩) ⟨fun _ => hS.1, fun _ => hS.2⟩ ?_
      try simp only [Act.put, List.setIfInBounds_toArray, List.set_cons_zero, List.set_cons_succ]
      clear hS
      refine zC9 8 (by kernel_rfl) rfl (fun KK hKK => ?_)
      go_simp
      refine hKK.out _ _ ⟨fun e => absurd e (by decide), fun _ => (by go_keep)⟩ ?_
      clear hKK KK
      try simp only [Act.put, List.setIfInBounds_toArray, List.set_cons_zero, List.set_cons_succ]
      refine zC9 9 (by kernel_rfl) rfl (fun KK hKK => ?_)
      go_simp
      refine hKK.out _ _ ⟨fun e => absurd e (by decide), fun e => absurd e (by decide)⟩ ?_
      clear hKK KK
      try simp only [Act.put, List.setIfInBounds_toArray, List.set_cons_zero, List.set_cons_succ]
      refine zJ3 (by kernel_rfl) ?_ _
      go_wp2_with fail
      generalize hW10 : World.drew (World.setCell (World.setCell (World.setCell (World.setCell (World.setCell (World.setCell (World.setCell (World.setCell (w6) _ _) _ _) _ _) _ _) _ _) _ _) _ _) _ _) = W10
      have Y := ClW.step (q1 := (⟨qb.gd, qb.Ad, qb.nd, qb.cd, qb.ys, decide (ss < 0), A5, n5, c5, xs5⟩ : RVal)) (q2 := (⟨qa.gd, qa.Ad, qa.nd, qa.cd, qa.ys, decide (rs < 0), A3, n3, c3, xs3⟩ : RVal)) HX6.out ⟨HX6.out.bb.sl.2, T6.out.sl⟩ ⟨HX6.out.ba.sl.2, R6.out.sl⟩ HX6.out.o4 O4.out.2 HX6.out.o2 O2.out.2 HP.out.2 HP.out.1 (zQ6 M.out.1.1 M.out.2.1 HX6.out.sg HE.out)
      have Y2 := Y.drew
      have Y3 : Hid (ClW w r u f ss d rs (⟨qb.gd, qb.Ad, qb.nd, qb.cd, qb.ys, decide (ss < 0), A5, n5, c5, xs5⟩ : RVal) (⟨qa.gd, qa.Ad, qa.nd, qa.cd, qa.ys, decide (rs < 0), A3, n3, c3, xs3⟩ : RVal) W10) := by rw [<- hW10]; exact hI Y2
      clear hW10 Y Y2 p0 p1 p2 p3 pf0 pf1 pf2 pf3 n0 n1x n2x n3x nf0 nf1 nf2 nf3 p4 p5 p6 p7 z0 z1 z2 z3 z4 z5 z6 z7 HX6 R6 T6 hC
      go_roundg (ss + rs).toNat
      case measure => have a1 := HK.out; have a2 := M.out.1.2.2; have a3 := M.out.2.2.2; have a4 := M.out.1.2.1; have a5 := M.out.2.2.1; omega
      case rel => exact ⟨_, _, _, _, _, _, _, rfl, rfl, Y3⟩
  . have HU := hI (cl_differ M.out.1.1 M.out.2.1 M.out.1.2.1 M.out.1.2.2 M.out.2.2.1 M.out.2.2.2 HX6.out.sg hne)
    have hcu : c = u := HC.out.symm.trans HU.out
    have hc0 : (c != 0) = true := by
     rw [bne_iff_ne, <- HC.out]
     intro k
     have := Int.sign_eq_zero_iff_zero.1 k
     omega
    go_wp2
    go_ret
    exact ⟨rfl, by rw [HRr.out]; exact HX6.out.bel⟩
end Go.Proofs.YtphinlongdoedaaGreat
namespace Go.Proofs.YtphinlongdoedaaGreat
open Go.RowKit
set_option maxRecDepth 20000
set_option maxHeartbeats 4000000
theorem rcm_long (q q' : RVal) (w : World) (h : q.In w) (h' : q'.In w) (x y : Rat) (hx : rv q.o q.od = some x) (hy : rv q'.o q'.od = some y) (an ad bn bd z1 z2 f1 f2 : Int) (o1 : q.o = some an) (o2 : q.od = some ad) (o3 : q'.o = some bn) (o4 : q'.od = some bd) (h1 : fitZ (an * bd) = z1) (h2 : fitZ (bn * ad) = z2) (k1 : Kf 0 (fitE (an * bd)) f1) (k2 : Kf f1 (fitE (bn * ad)) f2) (hf : (f2 != 0) = true) (u : Int) (hC : ∀ w : World, q.In w -> q'.In w -> Calls Tryz.prog 42 #[.agg #[.bool q.g, .slice q.A q.n q.c, .bool q.gd, .slice q.Ad q.nd q.cd], .agg #[.bool q'.g, .slice q'.A q'.n q'.c, .bool q'.gd, .slice q'.Ad q'.nd q'.cd]] w fun e w' => e = .returned (.int .i64 u) /\ Below w.heap.size w w') :
 Calls Tryz.prog 17 #[.agg #[.bool q.g, .slice q.A q.n q.c, .bool q.gd, .slice q.Ad q.nd q.cd], .agg #[.bool q'.g, .slice q'.A q'.n q'.c, .bool q'.gd, .slice q'.Ad q'.nd q'.cd]] w (RetC u 0 w) := by
 have HE := hI (And.intro (zE1 hx) (zE1 hy))
 have HO := hI (And.intro (And.intro o1 o2) (And.intro o3 o4))
 have HZ := hI (And.intro h1 h2)
 have HF := hI (And.intro k1 k2)
 have HU := hI hC
 have HN := hI hf
 clear hx hy o1 o2 o3 o4 h1 h2 k1 k2 hC hf
 have HS := hI (And.intro h h')
 clear h h'
 go_enter Tryz.func17, Tryz.ntmps17
 go_wp2_with fail
 generalize hW : World.alloc (World.alloc (World.alloc w _) _) _ = V0
 obtain ⟨hb, ra, rb, ar⟩ := zU1 q q' w V0 HS.out.1 HS.out.2 hW
 have HB := hI hb
 clear hW hb
 generalize hr : w.heap.size = r at *
 have HRr := hI hr
 clear hr
 have C := zI0 q q' (r + 1 + 1) true true V0 ra.sl rb.sl ar HE.out.1 HE.out.2
 refine C.mono ?_
 clear C ar
 rintro e w1 ⟨rfl, hb1⟩
 have B1 := hI (zA HB.out (by have := HB.out.size; have := HRr.out; omega) hb1)
 have RA := hI (ra.on hb1)
 have RB := hI (rb.on hb1)
 clear hb1 ra rb
 have lr := RB.out.lt
 go_upto_region 4 with fail
 generalize hW : World.alloc w1 _ = V
 have hn := zA0 w1 (.cells #[.int .i64 0] 68)
 have hcl := Blk.new w1 68 #[.int .i64 0]
 rw [hW] at hn hcl
 have B2 := hI (zA B1.out (by have := B1.out.size; have := HRr.out; omega) hn)
 have RA1 := hI (RA.out.on hn)
 have RB1 := hI (RB.out.on hn)
 have hs8 : r + 1 < w1.heap.size := lr
 have K0 : Hid (Kp V V w1.heap.size 0) := hI (Kp.below (Below.refl _ _) hcl)
 have K0d := hI K0.out.drew
 have hlt : w1.heap.size < w1.heap.size + 1 := Nat.lt_succ_self _
 have hsz : w1.heap.size + 1 <= V.heap.size := by rw [<- hW]; simp
 clear hn hcl hW RA RB B1 lr
 generalize w1.heap.size = p at *
 have na : r ≠ p := by omega
 have nb : r + 1 ≠ p := by omega
 have HA := hI (And.intro RA1.out (And.intro na (And.intro RB1.out nb)))
 clear RA1 RB1 na nb
 have p0 := (K0.out.rb HA.out.1 HA.out.2.1).c0
 have p1 := (K0.out.rb HA.out.1 HA.out.2.1).c1
 have p2 := (K0.out.rb HA.out.1 HA.out.2.1).c2
 have p3 := (K0.out.rb HA.out.1 HA.out.2.1).c3
 have p4 := (K0.out.rb HA.out.2.2.1 HA.out.2.2.2).c0
 have p5 := (K0.out.rb HA.out.2.2.1 HA.out.2.2.2).c1
 have p6 := (K0.out.rb HA.out.2.2.1 HA.out.2.2.2).c2
 have p7 := (K0.out.rb HA.out.2.2.1 HA.out.2.2.2).c3
 have pw0 := World.new_ne _ _ p0
 have px0 := pw0.symm
 have py0 := Nat.ne_of_gt (Nat.lt_succ_of_lt (World.block_lt_of_cell? _ _ p0))
 have pz0 := py0.symm
 have pw4 := World.new_ne _ _ p4
 have px4 := pw4.symm
 have py4 := Nat.ne_of_gt (Nat.lt_succ_of_lt (World.block_lt_of_cell? _ _ p4))
 have pz4 := py4.symm
 go_upto_region 4 with fail
 go_cut [7, 8] (fun s7 s8 wx => Mid2 V p z1 z2 f2 s7 s8 wx)
 case first =>
  go_region_held3 (fun w' => w'.cell? ⟨r, 0, none⟩ = some (.bool q.g) /\ w'.cell? ⟨r, 1, none⟩ = some (.slice q.A q.n q.c) /\ w'.cell? ⟨r, 2, none⟩ = some (.bool q.gd) /\ w'.cell? ⟨r, 3, none⟩ = some (.slice q.Ad q.nd q.cd) /\ w'.cell? ⟨r + 1, 0, none⟩ = some (.bool q'.g) /\ w'.cell? ⟨r + 1, 1, none⟩ = some (.slice q'.A q'.n q'.c) /\ w'.cell? ⟨r + 1, 2, none⟩ = some (.bool q'.gd) /\ w'.cell? ⟨r + 1, 3, none⟩ = some (.slice q'.Ad q'.nd q'.cd)) (go_keep)
   (first
    | (go_at_call 30; (first | (have K := K1.out; have C := zC4 q'.g q.gd q'.A q.Ad q'.n q'.c q.nd q.cd p q'.xs q.ys bn ad f1 f2 v1 (K.sl _ _ _ _ HA.out.2.2.1.sl.1) (K.sl _ _ _ _ HA.out.1.sl.2) HO.out.2.1 HO.out.1.2 K.cl HF.out.2; rw [HZ.out.2] at C; (with_reducible refine C.mono ?_); clear C; rintro e v2 ⟨g2, A2, n2, c2, xs2, rfl, hs2, ho2, hk2⟩; (try replace fa := fa.kp hk2 hlt hsz ha9); (try replace fb := fb.kp hk2 hlt hsz hb9); have G1' : Hid (Sl v2 v2.heap.size A1 n1 c1 xs1 /\ ov g1 xs1 = some z1) := hI ⟨hk2.sl _ _ _ _ G1.out.1, G1.out.2⟩; clear G1; have G1 := G1'; clear G1'; have K2 := hI (K.trans hk2); have G2 := hI (And.intro hs2 ho2); clear K hk2 hs2 ho2) | (have K := (K1.out.alloc (.cells #[.bool false, .slice none 0 0] 24)); have C := zC4 q'.g q.gd q'.A q.Ad q'.n q'.c q.nd q.cd p q'.xs q.ys bn ad f1 f2 (v1.alloc (.cells #[.bool false, .slice none 0 0] 24)) (K.sl _ _ _ _ HA.out.2.2.1.sl.1) (K.sl _ _ _ _ HA.out.1.sl.2) HO.out.2.1 HO.out.1.2 K.cl HF.out.2; rw [HZ.out.2] at C; (with_reducible refine C.mono ?_); clear C; rintro e v2 ⟨g2, A2, n2, c2, xs2, rfl, hs2, ho2, hk2⟩; (first | (have fab := hI (Nat.ne_of_lt fa.lt); replace fa := fa.kpa hk2 hlt hsz ha9; have hb9 : Hid (Lez V.heap.size v1.heap.size) := hI K1.out.size; have fb : Bx v2 v1.heap.size false none 0 0 := Bx.kp1 v1 hk2 hlt hsz hb9) | (have ha9 : Hid (Lez V.heap.size v1.heap.size) := hI K1.out.size; have fa : Bx v2 v1.heap.size false none 0 0 := Bx.kp1 v1 hk2 hlt hsz ha9)); have G1' : Hid (Sl v2 v2.heap.size A1 n1 c1 xs1 /\ ov g1 xs1 = some z1) := hI ⟨hk2.sl _ _ _ _ (Sl.on G1.out.1 (zA0 _ _)), G1.out.2⟩; clear G1; have G1 := G1'; clear G1'; have K2 := hI (K.trans hk2); have G2 := hI (And.intro hs2 ho2); clear K hk2 hs2 ho2) | (have K := ((K1.out.alloc (.cells #[.bool false, .slice none 0 0] 24)).alloc (.cells #[.bool false, .slice none 0 0] 24)); have C := zC4 q'.g q.gd q'.A q.Ad q'.n q'.c q.nd q.cd p q'.xs q.ys bn ad f1 f2 ((v1.alloc (.cells #[.bool false, .slice none 0 0] 24)).alloc (.cells #[.bool false, .slice none 0 0] 24)) (K.sl _ _ _ _ HA.out.2.2.1.sl.1) (K.sl _ _ _ _ HA.out.1.sl.2) HO.out.2.1 HO.out.1.2 K.cl HF.out.2; rw [HZ.out.2] at C; (with_reducible refine C.mono ?_); clear C; rintro e v2 ⟨g2, A2, n2, c2, xs2, rfl, hs2, ho2, hk2⟩; have ha9 : Hid (Lez V.heap.size v1.heap.size) := hI K1.out.size; have hb9 : Hid (Lez V.heap.size (v1.heap.size + 1)) := hI (Nat.le_succ_of_le K1.out.size); have fa : Bx v2 v1.heap.size false none 0 0 := Bx.kp2 v1 hk2 hlt hsz ha9; have fb : Bx v2 (v1.heap.size + 1) false none 0 0 := Bx.kp3 v1 hk2 hlt hsz hb9; have fab := hI (Nat.ne_of_lt (Nat.lt_succ_self v1.heap.size)); have G1' : Hid (Sl v2 v2.heap.size A1 n1 c1 xs1 /\ ov g1 xs1 = some z1) := hI ⟨hk2.sl _ _ _ _ (Sl.on (Sl.on G1.out.1 (zA0 _ _)) (zA0 _ _)), G1.out.2⟩; clear G1; have G1 := G1'; clear G1'; have K2 := hI (K.trans hk2); have G2 := hI (And.intro hs2 ho2); clear K hk2 hs2 ho2)); clear t0 t1 t2 t3 t4 t5 t6 t7; have u0 := (K2.out.rb HA.out.1 HA.out.2.1).c0; have u1 := (K2.out.rb HA.out.1 HA.out.2.1).c1; have u2 := (K2.out.rb HA.out.1 HA.out.2.1).c2; have u3 := (K2.out.rb HA.out.1 HA.out.2.1).c3; have u4 := (K2.out.rb HA.out.2.2.1 HA.out.2.2.2).c0; have u5 := (K2.out.rb HA.out.2.2.1 HA.out.2.2.2).c1; have u6 := (K2.out.rb HA.out.2.2.1 HA.out.2.2.2).c2; have u7 := (K2.out.rb HA.out.2.2.1 HA.out.2.2.2).c3; have uw0 := World.new_ne _ _ u0; have ux0 := uw0.symm; have uy0 := Nat.ne_of_gt (Nat.lt_succ_of_lt (World.block_lt_of_cell? _ _ u0)); have uz0 := uy0.symm; have uw4 := World.new_ne _ _ u4; have ux4 := uw4.symm; have uy4 := Nat.ne_of_gt (Nat.lt_succ_of_lt (World.block_lt_of_cell? _ _ u4)); have uz4 := uy4.symm; (try (have t0 := fa.c0; have t1 := fa.c1; have t2 := fa.f 0; have t3 := fa.f 1; have t8 := fa.lt; have t9 := Nat.ne_of_lt t8; have FA := hI fa; clear fa)); (try (have s0 := fb.c0; have s1 := fb.c1; have s2 := fb.f 0; have s3 := fb.f 1; have s8 := fb.lt; have s9 := Nat.ne_of_lt s8; have FB := hI fb; clear fb; have fx := fab.out; have fy := fab.out.symm)))
    | (go_at_call 30; (first | (have K := K0.out.drew; have C := zC4 q.g q'.gd q.A q'.Ad q.n q.c q'.nd q'.cd p q.xs q'.ys an bd 0 f1 V.drew (K.sl _ _ _ _ HA.out.1.sl.1) (K.sl _ _ _ _ HA.out.2.2.1.sl.2) HO.out.1.1 HO.out.2.2 K.cl HF.out.1; rw [HZ.out.1] at C; (with_reducible refine C.mono ?_); clear C; rintro e v1 ⟨g1, A1, n1, c1, xs1, rfl, hs1, ho1, hk1⟩; (try replace fa := fa.kp hk1 hlt hsz ha9); (try replace fb := fb.kp hk1 hlt hsz hb9); have K1 := hI (K.trans hk1); have G1 := hI (And.intro hs1 ho1); clear K hk1 hs1 ho1) | (have K := (K0.out.alloc (.cells #[.bool false, .slice none 0 0] 24)).drew; have C := zC4 q.g q'.gd q.A q'.Ad q.n q.c q'.nd q'.cd p q.xs q'.ys an bd 0 f1 (V.alloc (.cells #[.bool false, .slice none 0 0] 24)).drew (K.sl _ _ _ _ HA.out.1.sl.1) (K.sl _ _ _ _ HA.out.2.2.1.sl.2) HO.out.1.1 HO.out.2.2 K.cl HF.out.1; rw [HZ.out.1] at C; (with_reducible refine C.mono ?_); clear C; rintro e v1 ⟨g1, A1, n1, c1, xs1, rfl, hs1, ho1, hk1⟩; (first | (have fab := hI (Nat.ne_of_lt fa.lt); replace fa := fa.kpa hk1.undrew hlt hsz ha9; have hb9 : Hid (Lez V.heap.size V.heap.size) := hI K0.out.size; have fb : Bx v1 V.heap.size false none 0 0 := Bx.kp1 V hk1.undrew hlt hsz hb9) | (have ha9 : Hid (Lez V.heap.size V.heap.size) := hI K0.out.size; have fa : Bx v1 V.heap.size false none 0 0 := Bx.kp1 V hk1.undrew hlt hsz ha9)); have K1 := hI (K.trans hk1); have G1 := hI (And.intro hs1 ho1); clear K hk1 hs1 ho1) | (have K := ((K0.out.alloc (.cells #[.bool false, .slice none 0 0] 24)).alloc (.cells #[.bool false, .slice none 0 0] 24)).drew; have C := zC4 q.g q'.gd q.A q'.Ad q.n q.c q'.nd q'.cd p q.xs q'.ys an bd 0 f1 ((V.alloc (.cells #[.bool false, .slice none 0 0] 24)).alloc (.cells #[.bool false, .slice none 0 0] 24)).drew (K.sl _ _ _ _ HA.out.1.sl.1) (K.sl _ _ _ _ HA.out.2.2.1.sl.2) HO.out.1.1 HO.out.2.2 K.cl HF.out.1; rw [HZ.out.1] at C; (with_reducible refine C.mono ?_); clear C; rintro e v1 ⟨g1, A1, n1, c1, xs1, rfl, hs1, ho1, hk1⟩; have ha9 : Hid (Lez V.heap.size V.heap.size) := hI K0.out.size; have hb9 : Hid (Lez V.heap.size (V.heap.size + 1)) := hI (Nat.le_succ_of_le K0.out.size); have fa : Bx v1 V.heap.size false none 0 0 := Bx.kp2 V hk1.undrew hlt hsz ha9; have fb : Bx v1 (V.heap.size + 1) false none 0 0 := Bx.kp3 V hk1.undrew hlt hsz hb9; have fab := hI (Nat.ne_of_lt (Nat.lt_succ_self V.heap.size)); have K1 := hI (K.trans hk1); have G1 := hI (And.intro hs1 ho1); clear K hk1 hs1 ho1)); clear p0 p1 p2 p3 p4 p5 p6 p7; have t0 := (K1.out.rb HA.out.1 HA.out.2.1).c0; have t1 := (K1.out.rb HA.out.1 HA.out.2.1).c1; have t2 := (K1.out.rb HA.out.1 HA.out.2.1).c2; have t3 := (K1.out.rb HA.out.1 HA.out.2.1).c3; have t4 := (K1.out.rb HA.out.2.2.1 HA.out.2.2.2).c0; have t5 := (K1.out.rb HA.out.2.2.1 HA.out.2.2.2).c1; have t6 := (K1.out.rb HA.out.2.2.1 HA.out.2.2.2).c2; have t7 := (K1.out.rb HA.out.2.2.1 HA.out.2.2.2).c3; have tw0 := World.new_ne _ _ t0; have tx0 := tw0.symm; have ty0 := Nat.ne_of_gt (Nat.lt_succ_of_lt (World.block_lt_of_cell? _ _ t0)); have tz0 := ty0.symm; have tw4 := World.new_ne _ _ t4; have tx4 := tw4.symm; have ty4 := Nat.ne_of_gt (Nat.lt_succ_of_lt (World.block_lt_of_cell? _ _ t4)); have tz4 := ty4.symm))
  all_goals (go_wp2_with fail; go_meet; first
   | exact m2_78 K2.out G1.out.1 G1.out.2 G2.out.1 G2.out.2
   | exact m2_87 K2.out G1.out.1 G1.out.2 G2.out.1 G2.out.2
   | exact m2_on FA.out (Nat.lt_of_lt_of_le hlt hsz) ha9.out K2.out G1.out.1 G1.out.2 G2.out.1 G2.out.2
   | exact m2_no FA.out (Nat.lt_of_lt_of_le hlt hsz) ha9.out K2.out G1.out.1 G1.out.2 G2.out.1 G2.out.2
   | exact m2_oo FA.out FB.out fab.out (Nat.lt_of_lt_of_le hlt hsz) ha9.out hb9.out K2.out G1.out.1 G1.out.2 G2.out.1 G2.out.2
   | exact m2_oo FB.out FA.out fab.out.symm (Nat.lt_of_lt_of_le hlt hsz) hb9.out ha9.out K2.out G1.out.1 G1.out.2 G2.out.1 G2.out.2)
 case rest =>
 obtain ⟨a9, b9, g8, A8, n8, c8, xs8, g9, A9, n9, c9, xs9, rfl, rfl, x8, o8, x9, o9, k9⟩ := hcut
 have B9 := hI (k9.bel _ _ B2.out (by omega) (by have := B2.out.size; have := HRr.out; omega))
 have X8 := hI x8
 have X9 := hI x9
 have O89 := hI (And.intro o8 o9)
 have hcl := k9.cl
 have kc : wc.cell? ⟨p, 0, none⟩ = some (.int .i64 f2) := by rw [Blk.cell hcl 0]; rfl
 have m0 := X8.out.bx.c0
 have m1 := X8.out.bx.c1
 have m2 := X9.out.bx.c0
 have m3 := X9.out.bx.c1
 have RA9 := hI (k9.rb HA.out.1 HA.out.2.1)
 have RB9 := hI (k9.rb HA.out.2.2.1 HA.out.2.2.2)
 clear k9 x8 x9 o8 o9 hcl m0 m1 m2 m3 X8 X9
 have hN : (f2 != 0) = true := HN.out
 have a0 := RA9.out.c0
 have a1 := RA9.out.c1
 have a2 := RA9.out.c2
 have a3 := RA9.out.c3
 have b0 := RB9.out.c0
 have b1 := RB9.out.c1
 have b2 := RB9.out.c2
 have b3 := RB9.out.c3
 go_wp2_with fail
 refine (HU.out _ RA9.out.sl RB9.out.sl).mono ?_
 rintro e w5 ⟨rfl, hb5⟩
 have B5 := hI (zA B9.out (by have := B9.out.size; have := HRr.out; omega) hb5)
 clear hb5 a0 a1 a2 a3 b0 b1 b2 b3 kc B9
 go_wp2
 go_ret2
 exact ⟨rfl, HRr.out.symm ▸ B5.out⟩
theorem zT6 (f e : Int) : Kf f e (if f = 0 then e else f) := by
 by_cases h : f = 0
 . rw [if_pos h]; exact Or.inl ⟨h, rfl⟩
 . rw [if_neg h]; exact Or.inr ⟨h, rfl⟩
theorem cmp_q {q q' : RVal} {x y : Rat} {w : World} (h : q.In w) (h' : q'.In w) (hx : rv q.o q.od = some x) (hy : rv q'.o q'.od = some y) (u : Int) (hu : Int.sign (x.num * y.den - y.num * x.den) = u) :
 Calls Tryz.prog 17 #[.agg #[.bool q.g, .slice q.A q.n q.c, .bool q.gd, .slice q.Ad q.nd q.cd], .agg #[.bool q'.g, .slice q'.A q'.n q'.c, .bool q'.gd, .slice q'.Ad q'.nd q'.cd]] w (RetC u 0 w) := by
 have o1 := zC1 hx
 have o2 := zC1 hy
 have dx := x.den_pos
 have dy := y.den_pos
 have hC : ∀ w : World, q.In w -> q'.In w -> Calls Tryz.prog 42 #[.agg #[.bool q.g, .slice q.A q.n q.c, .bool q.gd, .slice q.Ad q.nd q.cd], .agg #[.bool q'.g, .slice q'.A q'.n q'.c, .bool q'.gd, .slice q'.Ad q'.nd q'.cd]] w fun e w' => e = .returned (.int .i64 u) /\ Below w.heap.size w w' :=
  fun w h h' => cmpLong_run q q' w h h' x.num x.den y.num y.den u o1.1 o1.2 o2.1 o2.2 (by omega) (by omega) hu
 rcases zM8 (x.num * (y.den : Int)) with f1 | f1
 . rcases zM8 (y.num * (x.den : Int)) with f2 | f2
   . exact rcm_short q q' w h h' x y hx hy x.num x.den y.num y.den _ _ 0 0 o1.1 o1.2 o2.1 o2.2 f1.2.1 f2.2.1 (zC8 f1.1) (zC8 f2.1) rfl u hu
   . exact rcm_long q q' w h h' x y hx hy x.num x.den y.num y.den _ _ 0 2 o1.1 o1.2 o2.1 o2.2 rfl rfl (zC8 f1.1) (by have := zT6 0 (fitE (y.num * (x.den : Int))); rw [if_pos rfl, f2] at this; rw [f2]; exact this) (by decide) u hC
 . exact rcm_long q q' w h h' x y hx hy x.num x.den y.num y.den _ _ 2 2 o1.1 o1.2 o2.1 o2.2 rfl rfl (by have := zT6 0 (fitE (x.num * (y.den : Int))); rw [if_pos rfl, f1] at this; rw [f1]; exact this) (by have := zT6 2 (fitE (y.num * (x.den : Int))); rw [if_neg (by decide)] at this; exact this) (by decide) u hC
end Go.Proofs.YtphinlongdoedaaGreat
