/-
  Stage 2: the rational's isOne.
-/
import Derived.Deep.DeepCutAuto
import Derived.Test.YtfodjaeknhomkaaBaseC
namespace Go.Proofs.Ytfodjaeknhomkaa
open Go.RowKit
/-- Is an integer, if valid, 1? -/
def oneB (o : Option Int) : Bool := smB o && (smZ o == 1)
theorem oneB_iff (o : Option Int) : oneB o = true ↔ o = some 1 := by
  unfold oneB smZ
  rcases o with _ | a
  · simp [smB]
  · constructor
    · intro h
      rw [Bool.and_eq_true] at h
      rw [if_pos h.1] at h
      have := eq_of_beq h.2
      simp only [Option.getD_some] at this
      rw [this]
    · intro h
      injection h with h
      subst h
      rfl
theorem isOne_ov {neg : Bool} {A : Option Addr} {n c : Nat} {xs : List Nat} {w : World} (h : Sl w w.heap.size A n c xs) :
    Calls Try.prog 34 #[.agg #[.bool neg, .slice A n c]] w fun e w' => e = .returned (.bool (oneB (ov neg xs))) ∧ Below w.heap.size w w' := by
  have S := fun (w : World) (h : Sl w w.heap.size A n c xs) => small_ov (neg := neg) h
  unfold oneB
  generalize smZ (ov neg xs) = z at *
  generalize smB (ov neg xs) = b at *
  have HS := Lib.hid S
  clear S
  rcases b with _ | _
  all_goals
    go_enter Try.func34, Try.ntmps34
    go_wp2_with fail
    have hs := h.on (below_new w (.cells #[.bool neg, .slice A n c] 26))
    refine (HS.out _ hs).mono ?_
    rintro e w1 ⟨rfl, hb1⟩
    have HB := Lib.hid (below_chain (below_new w (.cells #[.bool neg, .slice A n c] 26)) (by simp) hb1)
    clear hb1 hs
    go_wp2
    go_ret
    exact ⟨rfl, HB.out⟩
end Go.Proofs.Ytfodjaeknhomkaa
