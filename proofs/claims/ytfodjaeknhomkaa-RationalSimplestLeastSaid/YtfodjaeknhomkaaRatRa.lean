/-
  Stage 2: the reference's negative, lowest, Make and Of.
-/
import Derived.Test.YtfodjaeknhomkaaRatRw
namespace Go.Proofs.Ytfodjaeknhomkaa
open Go.RowKit
theorem RetN.of {z : Int} {w U : World} {r : Nat} {g : Bool} {A : Option Addr} {n c : Nat} {xs : List Nat} (h : Ba U r g A n c xs) (ho : ov g xs = some z) (hb : Below w.heap.size w U) : RetN z w (.returned (.agg #[.bool g, .slice A n c])) U := ⟨g, A, n, c, xs, rfl, h.sl, ho, hb⟩
theorem RetW.of {x : Rat} {w U : World} {r : Nat} {q : RVal} (h : Rb U r q) (ho : rv q.o q.od = some x) (hb : Below w.heap.size w U) : RetW x w (.returned (.agg #[.bool q.g, .slice q.A q.n q.c, .bool q.gd, .slice q.Ad q.nd q.cd])) U := ⟨q, rfl, h.sl, ho, hb⟩
theorem gcd_dvd (a b : Int) (hb : b ≠ 0) : gcdZ a b ≠ 0 ∧ gcdZ a b ∣ a ∧ gcdZ a b ∣ b := by
  have m := mk_num a b hb
  rcases Int.lt_or_gt_of_ne hb with h | h
  · rw [Int.sign_eq_neg_one_of_neg h] at m
    have e : -1 * gcdZ a b = -gcdZ a b := by omega
    rw [e] at m
    exact ⟨by omega, Int.neg_dvd.1 m.1, Int.neg_dvd.1 m.2.1⟩
  · rw [Int.sign_eq_one_of_pos h, Int.one_mul] at m
    exact ⟨m.2.2.2.2, m.1, m.2.1⟩
end Go.Proofs.Ytfodjaeknhomkaa
