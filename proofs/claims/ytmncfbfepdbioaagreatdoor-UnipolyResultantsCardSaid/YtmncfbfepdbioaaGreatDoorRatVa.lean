/-
 Stage 2: the reference's isOne, isZero, Valid and Short. Stage 2: the laws' valid.
-/
import Derived.Test.YtmncfbfepdbioaaGreatDoorPolX
import Derived.Test.YtmncfbfepdbioaaGreatDoorBaseF
import Derived.Test.YtmncfbfepdbioaaGreatDoorRatH
namespace Go.Proofs.YtmncfbfepdbioaaGreatDoor
open Go.RowKit
theorem riszero_any (neg : Bool) (A : Option Addr) (n c : Nat) (w : World) :
 Calls Tryz.prog 151 #[.agg #[.bool neg, .slice A n c]] w fun e w' => e = .returned (.bool (decide (n = 0))) /\ Below w.heap.size w w' := by
 have HB := Lib.hid (below_new w (.cells #[.bool neg, .slice A n c] 25))
 by_cases hn : n = 0
 . subst hn
   go_enter Tryz.func151, Tryz.ntmps151
   go_wp2
   go_ret
   exact ⟨rfl, HB.out⟩
 . have e1 : ((n : Int) == 0) = false := by rw [beq_eq_false_iff_ne]; omega
   have e2 : (n == 0) = false := by rw [beq_eq_false_iff_ne]; exact hn
   have hd := Lib.hid (decide_eq_false hn)
   go_enter Tryz.func151, Tryz.ntmps151
   go_wp2
   go_ret
   exact ⟨by simp [hd.out], HB.out⟩
end Go.Proofs.YtmncfbfepdbioaaGreatDoor
namespace Go.Proofs.YtmncfbfepdbioaaGreatDoor
open Go.RowKit
end Go.Proofs.YtmncfbfepdbioaaGreatDoor
