/-
 Stage 3: the tables that a row lists, and a heap that meets them.
-/
import Derived.LaidMore
import Derived.Stop.Joined
import Derived.SevenTiedAt
import Derived.Test.YtmncfbfepdbioaaGreatDoorCards
import Derived.Test.YtmncfbfepdbioaaGreatDoorRatFacts
import Derived.Test.YtmncfbfepdbioaaGreatDoorUniArg
namespace Go.Proofs.YtmncfbfepdbioaaGreatDoor
open Go.ChangeShapes Go.WideShapes Go.ChangeAt Go.RowKit Go.Joins
def laidU {H : Type} : List (String × DataW H) := [("math/bits.deBruijn32tab", Rows.laid_math_bits_deBruijn32tab), ("math/bits.deBruijn64tab", Rows.laid_math_bits_deBruijn64tab), ("internal/strconv.uint64pow10", Rows.laid_internal_strconv_uint64pow10)]
theorem door_met (os : Os) (args : Array Value) : laidMetH Tryz.prog laidU ((World.doorLaid Tryz.prog 400 os).forCall (fun _ _ => 0) ⟨#[], args, []⟩).memory :=
 laidMetH_of_parts3 (fuel := 8) (laidMet_of_run' 8 (by kernel_rfl) (by kernel_rfl)) (by kernel_rfl) (by kernel_rfl)
theorem main_is : Tryz.prog.mainIs = some (true, ("92c791da22ca6296223053700614f65f0185ee7727ff9ea7f0cf8020e5fdb216" : String).toList) := by
 unfold Program.mainIs
 rw [head_chars]
 kernel_rfl
theorem looks_so : true = Tryz.prog.looks [] := by kernel_rfl
end Go.Proofs.YtmncfbfepdbioaaGreatDoor
