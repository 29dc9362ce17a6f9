/-
  The closed facts of the rows: what the program's head says is read off its letters once; the other facts by the kernel.
-/
import Derived.Test.YtfodjaeknhomkaaRatArg
namespace Go.Proofs.Ytfodjaeknhomkaa
open Go
/-- The letters of the program's head. -/
def headNums : List Nat := [104, 97, 114, 110, 101, 115, 115, 32, 49, 55, 52, 51, 56, 97, 56, 99, 101, 99, 50, 99, 56, 49, 54, 99, 99, 54, 100, 102, 100, 53, 53, 56, 101, 52, 48, 98, 48, 98, 51, 99, 100, 52, 53, 48, 53, 102, 51, 102, 99, 50, 51, 54, 48, 53, 100, 102, 99, 102, 100, 56, 56, 57, 55, 55, 97, 99, 101, 98, 55, 101, 101, 52, 32, 99, 117, 116, 32, 97, 116, 32, 115, 116, 114, 97, 105, 103, 104, 116, 101, 100, 103, 101, 47, 115, 116, 114, 97, 105, 103, 104, 116, 101, 100, 103, 101, 108, 97, 119, 48, 50, 46, 82, 97, 116, 105, 111, 110, 97, 108, 83, 105, 109, 112, 108, 101, 115, 116, 76, 101, 97, 115, 116]
def headChars : List Char := headNums.map Char.ofNat
theorem head_eq : Try.prog.initOrder = String.ofList headChars := by kernel_rfl
theorem head_chars : Try.prog.initOrder.toList = headChars := by rw [head_eq]; exact String.toList_ofList
theorem head_words : behindMainWord (wordsSigns headChars) = "cut".toList :: (behindMainWord (wordsSigns headChars)).tail := by kernel_rfl
theorem words : behindMainWord (wordsSigns Try.prog.initOrder.toList) = "cut".toList :: (behindMainWord (wordsSigns headChars)).tail := by rw [head_chars]; exact head_words
theorem make_cut {P : Program} {rest : List (List Char)} (h : behindMainWord (wordsSigns P.initOrder.toList) = "cut".toList :: rest) : P.make = some .cut := by
  unfold Program.make; rw [h]; rfl
theorem strip_cut (rest : List (List Char)) : stripLifts liftWords ("cut".toList :: rest) = ([], "cut".toList :: rest) := by rfl
theorem lifts_cut {P : Program} {rest : List (List Char)} (h : behindMainWord (wordsSigns P.initOrder.toList) = "cut".toList :: rest) : P.liftsFinal = false := by
  unfold Program.liftsFinal Program.headLifts; rw [h, strip_cut]; rfl
theorem enter_cut {P : Program} {rest : List (List Char)} (h : behindMainWord (wordsSigns P.initOrder.toList) = "cut".toList :: rest) (h1 : P.laysLater = false) (h2 : P.bearsReflect = false) (h3 : P.doorFits [] = true) : P.mayEnter = true := by
  unfold Program.mayEnter; rw [h]; simp only [strip_cut, h1, h2, h3]; rfl
theorem may_enter : Try.prog.mayEnter = true := enter_cut words (by kernel_rfl) (by kernel_rfl) (by kernel_rfl)
theorem lifts_final : Try.prog.liftsFinal = false := lifts_cut words
theorem made_so : Try.prog.make = some .cut := make_cut words
/-- All closed facts but the three that read the head. -/
def restFacts (P : Program) (f : FuncId) (fn : Func) (s : ChangeSpec) (c : OpenClaim) : Bool :=
  c.wf (OpenSpec.ofChange s) && laidOutB P && mapsRowed P && fn.params.all (P.readableRec ·) && namedTie P c.named s.vars && (c.stops == []) && (P.stops == []) && (c.knobs == []) && (P.stopKnobs == []) && (c.inPlace == P.inPlace f) && (c.unfollowed == P.unfollowed f) && (c.recurses == P.recurses f) && (c.named == P.varsNamed f) && (c.maps == (fn.params.toList ++ s.plain.varTypes P).any (P.mapsRec ·)) && (c.ifaces == (fn.params.toList ++ s.plain.varTypes P).any (P.ifacesRec ·)) && (c.mapsOut == P.mapsAmong fn.resultTypes.toList) && (c.loops == (fn.params.toList ++ s.plain.varTypes P).any (P.loopsFrom ·)) && (c.wideKeys == (fn.params.toList ++ s.plain.varTypes P ++ fn.resultTypes.toList).any (P.wideKeysFrom ·)) && s.vars.all (P.varReadable ·) && fn.resultTypes.all (fun t => P.readableRec t && decide (t < P.types.size)) && (c.ifacesOut == fn.resultTypes.toList.any (P.ifacesRec ·)) && (c.loopsOut == fn.resultTypes.toList.any (P.loopsFrom ·)) && (c.plainKeys == P.plainKeys) && c.shortTexts.isNone && P.stopsHeard && (c.kinds == []) && (c.pinned == c.pinnedBy) && (c.veiled == (fn.params.toList ++ s.plain.varTypes P ++ fn.resultTypes.toList).any (P.veiledRec ·)) && c.veiledFits P fn.params.toList (fn.params.toList ++ s.plain.varTypes P ++ fn.resultTypes.toList)
theorem joined_of (P : Program) (f : FuncId) (fn : Func) (s : ChangeSpec) (c : OpenClaim) (e : P.mayEnter = true) (l : (c.lifted == P.liftsFinal) = true) (m : (P.make == some c.make) = true) (hd : c.domain.isEmpty = true) (rest : restFacts P f fn s c = true) : joinedFacts P f fn s c = true := by
  unfold joinedFacts
  rw [e, l, m, if_pos hd]
  simpa only [Bool.and_true, restFacts] using rest
end Go.Proofs.Ytfodjaeknhomkaa
