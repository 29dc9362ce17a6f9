/-
 Stage 2: the rational's isOne.
-/
import Derived.Deep.DeepCutAuto
import Derived.Test.YtphinlongdoedaaGreatBaseC
namespace Go.Proofs.YtphinlongdoedaaGreat
open Go.RowKit
def oneB (o : Option Int) : Bool := smB o && (smZ o == 1)
theorem oneB_iff (o : Option Int) : oneB o = true ↔ o = some 1 := by
 unfold oneB smZ
 rcases o with _ | a
 . simp [smB]
 . constructor
   . intro h
     rw [Bool.and_eq_true] at h
     rw [if_pos h.1] at h
     have := eq_of_beq h.2
     simp only [Option.getD_some] at this
     rw [this]
   . intro h
     injection h with h
     subst h
     rfl
theorem zP {neg : Bool} {A : Option Addr} {n c : Nat} {xs : List Nat} {w : World} (h : Sl w w.heap.size A n c xs) :
 Calls Tryz.prog 37 #[.agg #[.bool neg, .slice A n c]] w fun e w' => e = .returned (.bool (oneB (ov neg xs))) /\ Below w.heap.size w w' := by
 have S := fun (w : World) (h : Sl w w.heap.size A n c xs) => small_ov (neg := neg) h
 unfold oneB
 generalize smZ (ov neg xs) = z at *
 generalize smB (ov neg xs) = b at *
 have HS := hI S
 clear S
 rcases b with _ | _
 all_goals
  go_enter Tryz.func37, Tryz.ntmps37
  go_wp2_with fail
  have hs := h.on (zA0 w (.cells #[.bool neg, .slice A n c] 24))
  refine (HS.out _ hs).mono ?_
  rintro e w1 ⟨rfl, hb1⟩
  have HB := hI (zA (zA0 w (.cells #[.bool neg, .slice A n c] 24)) (by simp) hb1)
  clear hb1 hs
  go_wp2
  go_ret
  exact ⟨rfl, HB.out⟩
end Go.Proofs.YtphinlongdoedaaGreat
