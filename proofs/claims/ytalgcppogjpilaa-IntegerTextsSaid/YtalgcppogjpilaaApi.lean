/-
  Validity, both of the program and of the reference; the representation of a limited integer.
-/
import Derived.Test.YtalgcppogjpilaaCmp
namespace Go.Proofs.Ytalgcppogjpilaa
open Go.RowKit

/-- Is it a valid integer? -/
def vld (neg : Bool) (xs : List Nat) : Bool := if xs.length = 0 then !neg else decide (xs.length ≤ 128) && !(lim xs (xs.length - 1) == 0)

theorem bcell {W w1 : World} (hb : Below W.heap.size W w1) : (∀ b o, b < W.heap.size → w1.cell? ⟨b, o, none⟩ = W.cell? ⟨b, o, none⟩) ∧ (∀ b o, b < W.heap.size → w1.frozen? ⟨b, o, none⟩ = W.frozen? ⟨b, o, none⟩) :=
  ⟨fun b o h => hb.cell (p := ⟨b, o, none⟩) h, fun b o h => hb.frozen (p := ⟨b, o, none⟩) h⟩

theorem ret_bool {a b : Bool} (h : a = b) : Ending.returned (.bool a) = .returned (.bool b) := by rw [h]
theorem ret_int {k : IntKind} {a b : Int} (h : a = b) : Ending.returned (.int k a) = .returned (.int k b) := by rw [h]
theorem beq_cast0 (a : Nat) : ((a : Int) == 0) = (a == 0) := by
  rw [Bool.eq_iff_iff]; simp

set_option maxHeartbeats 400000 in
theorem valid_any (neg : Bool) (A : Option Addr) (n c B : Nat) (xs : List Nat) (w : World) (h : Sl w B A n c xs) (hB : B ≤ w.heap.size) :
    Calls Try.prog 21 #[.agg #[.bool neg, .slice A n c]] w fun e w' => e = .returned (.bool (vld neg xs)) ∧ Below w.heap.size w w' := by
  have hr := h.reach
  have hcr := h.capr
  have hc := h.cap
  have hl := h.len
  have hb := (Below.refl w.heap.size w).alloc (Nat.le_refl _) (.cells #[.bool neg, .slice A n c] 24)
  unfold vld
  rw [hl]
  by_cases h0 : n = 0
  · subst h0
    rw [if_pos rfl]
    clear hl
    go_enter Try.func21, Try.ntmps21
    go_wp2
    go_ret
    exact ⟨rfl, hb⟩
  · rw [if_neg h0]
    obtain ⟨ad, rfl, hadb, hc1⟩ := (h.alloc hB (.cells #[.bool neg, .slice A n c] 24)).cell (k := n - 1) (by omega)
    have i1 : (0 : Int) ≤ (n : Int) - 1 := by omega
    have i2 : (n : Int) - 1 < (n : Int) := by omega
    have i3 : ((n : Int) - 1).toNat = n - 1 := by omega
    have i4 : ((n : Int) == 0) = false := by rw [beq_eq_false_iff_ne]; omega
    clear hl
    by_cases h1 : n ≤ 128
    · have d1 : decide ((n : Int) ≤ 128) = true := by simp; omega
      go_enter Try.func21, Try.ntmps21
      go_wp2
      go_ret
      refine ⟨ret_bool ?_, hb⟩
      rw [decide_eq_true h1, Bool.true_and, bne, beq_cast0]
    · have d1 : decide ((n : Int) ≤ 128) = false := by simp; omega
      go_enter Try.func21, Try.ntmps21
      go_wp2
      go_ret
      refine ⟨ret_bool ?_, hb⟩
      rw [decide_eq_false h1, Bool.false_and]

end Go.Proofs.Ytalgcppogjpilaa
