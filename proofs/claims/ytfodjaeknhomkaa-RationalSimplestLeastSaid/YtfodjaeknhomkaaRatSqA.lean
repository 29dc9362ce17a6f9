/-
  Stage 2: square roots by values.
-/
import Derived.Test.YtfodjaeknhomkaaRatLb
import Derived.Test.YtfodjaeknhomkaaRatK
namespace Go.Proofs.Ytfodjaeknhomkaa
open Go.RowKit
/-- A square root is handed back, exact. -/
def RetVB (x : Rat) (w : World) (e : Ending) (w' : World) : Prop := ∃ q : RVal, e = .returned (.tuple #[.agg #[.bool q.g, .slice q.A q.n q.c, .bool q.gd, .slice q.Ad q.nd q.cd], .bool true, .int .i64 0]) ∧ q.In w' ∧ rv q.o q.od = some x ∧ Below w.heap.size w w'
theorem sq_parts (x : Rat) : (x * x).num = x.num * x.num ∧ (x * x).den = x.den * x.den := by
  have hc : gcdZ (x.num * x.num) ((x.den : Int) * x.den) = 1 := by
    unfold gcdZ
    rw [Int.natAbs_mul, Int.natAbs_mul, Int.natAbs_natCast]
    have r : Nat.Coprime x.num.natAbs x.den := x.reduced
    have := Nat.Coprime.mul_right (Nat.Coprime.mul_left r r) (Nat.Coprime.mul_left r r)
    rw [Nat.Coprime] at this
    rw [this]; rfl
  have hp : 0 < (x.den : Int) * x.den := by have := x.den_pos; exact Int.mul_pos (by omega) (by omega)
  have e := qn (x.num * x.num) ((x.den : Int) * x.den) hp hc
  rw [rat_mul] at e
  refine ⟨e.1, ?_⟩
  have := e.2
  rw [← Int.natCast_mul] at this
  exact Int.ofNat.inj this
section
variable {q : RVal} {x : Rat} {w : World}
theorem sqrt_sq_v (h : q.In w) (hx : rv q.o q.od = some (x * x)) (m : Rat) (h1 : (x.num.natAbs : Int) = m.num) (h2 : x.den = m.den) : Calls Try.prog 12 #[.agg #[.bool q.g, .slice q.A q.n q.c, .bool q.gd, .slice q.Ad q.nd q.cd]] w (RetVB m w) := by
  have p := sq_parts x
  have hn : (x * x).num.natAbs = x.num.natAbs * x.num.natAbs := by rw [p.1, Int.natAbs_mul]
  have hs : ∀ s : Nat, s * s < (s + 1) * (s + 1) := fun s => Nat.mul_lt_mul'' (by omega) (by omega)
  refine (rsq_yes q w h (x * x) x.num.natAbs x.den hx (by rw [p.1, ← Int.natAbs_mul_self]; exact Int.natCast_nonneg _) (by rw [hn]; exact Nat.le_refl _) (by rw [hn]; exact hs _) (by rw [p.2]; exact Nat.le_refl _) (by rw [p.2]; exact hs _) hn.symm p.2.symm).mono ?_
  rintro e w1 ⟨t, rfl, hi, o1, o2, hb⟩
  exact ⟨t, rfl, hi, by rw [o1, o2, h1, h2]; exact rv_of m, hb⟩
theorem has_sqrt : ∀ n : Nat, ∃ s, s * s ≤ n ∧ n < (s + 1) * (s + 1)
  | 0 => ⟨0, by omega, by omega⟩
  | n + 1 => by
    obtain ⟨s, h1, h2⟩ := has_sqrt n
    by_cases h : n + 1 = (s + 1) * (s + 1)
    · have e : (s + 1 + 1) * (s + 1 + 1) = (s + 1) * (s + 1) + 2 * (s + 1) + 1 := by grind
      exact ⟨s + 1, by omega, by omega⟩
    · exact ⟨s, by omega, by omega⟩
theorem sq_le (s : Nat) : s ≤ s * s := by
  rcases Nat.eq_zero_or_pos s with h | h
  · omega
  · exact Nat.le_mul_of_pos_left s h
theorem sqrt_any (hx : rv q.o q.od = some x) (hn : 0 ≤ x.num) {e : Nat} (hb : Bd e x) : (∃ y : Rat, y * y = x ∧ Bd e y ∧ ∀ w, q.In w → Calls Try.prog 12 #[.agg #[.bool q.g, .slice q.A q.n q.c, .bool q.gd, .slice q.Ad q.nd q.cd]] w (RetVB y w)) ∨ ∀ w, q.In w → Calls Try.prog 12 #[.agg #[.bool q.g, .slice q.A q.n q.c, .bool q.gd, .slice q.Ad q.nd q.cd]] w (RetRB 0 0 false 0 w) := by
  obtain ⟨s, h1, h2⟩ := has_sqrt x.num.natAbs
  obtain ⟨t, t1, t2⟩ := has_sqrt x.den
  by_cases hs : s * s = x.num.natAbs
  · by_cases ht : t * t = x.den
    · left
      have t0 : 0 < t := by
        rcases Nat.eq_zero_or_pos t with h | h
        · subst h; have := x.den_pos; omega
        · exact h
      have hc : Nat.Coprime s t := by
        have r : Nat.Coprime x.num.natAbs x.den := x.reduced
        rw [← hs, ← ht] at r
        exact Nat.Coprime.coprime_dvd_left (Nat.dvd_mul_right s s) (Nat.Coprime.coprime_dvd_right (Nat.dvd_mul_right t t) r)
      have hg : gcdZ (s : Int) (t : Int) = 1 := by unfold gcdZ; rw [Int.natAbs_natCast, Int.natAbs_natCast, hc]; rfl
      have e := qn (s : Int) (t : Int) (by omega) hg
      have hd : (Rat.divInt s t).den = t := by have := e.2; omega
      refine ⟨Rat.divInt s t, ?_, ?_, fun w h => ?_⟩
      · have p := sq_parts (Rat.divInt s t)
        apply Rat.ext
        · rw [p.1, e.1, ← Int.natCast_mul, hs]; omega
        · rw [p.2, hd, ht]
      · exact ⟨by rw [e.1, Int.natAbs_natCast]; exact Nat.lt_of_le_of_lt (Nat.le_trans (sq_le s) (Nat.le_of_eq hs)) hb.1, by rw [hd]; exact Nat.lt_of_le_of_lt (Nat.le_trans (sq_le t) (Nat.le_of_eq ht)) hb.2⟩
      · refine (rsq_yes q w h x s t hx hn h1 h2 t1 t2 hs ht).mono ?_
        rintro e w1 ⟨u, rfl, hi, o1, o2, hb⟩
        exact ⟨u, rfl, hi, by rw [o1, o2]; exact rv_mk (by omega) hg, hb⟩
    · exact Or.inr fun w h => rsq_no2 q w h x s t hx hn h1 h2 t1 t2 hs ht
  · exact Or.inr fun w h => rsq_no1 q w h x s hx hn h1 h2 hs
end
end Go.Proofs.Ytfodjaeknhomkaa
