/-
  IntegerSquares returns true for every integer, valid or not, whatever the memory it shares; the argument reads as before. No condition.
-/
import Derived.Test.YtalgcppogjpilaaLawSqA
import Derived.Test.YtalgcppogjpilaaFacts
namespace Go.Proofs.Ytalgcppogjpilaa
open Go.ChangeShapes Go.WideShapes Go.ChangeAt Go.RowKit Go.Joins

set_option maxRecDepth 100000 in
theorem integerSquares_lifted (os : Os) (started : os.Started) (H : Type) (enc : TypeId × Value → H) :
    ReturnsInHanded {} Try.checked os 14 .any (Rows.integerSquaresSpec.pre6 enc Try.prog Try.f14 Rows.integerSquaresRow.domain false) (Rows.integerSquaresSpec.post enc Try.prog Try.f14 false true false false) := by
  refine returnsInHanded_of_change_sized (C := Try.checked) Try.own started (by kernel_rfl) Try.func14
    (ChangeSpec.witness6 (enc := enc) (C := Try.checked) false ⟨#[], #[.agg #[.bool false, .slice none 0 0]], []⟩ 8 (by kernel_rfl) (by kernel_rfl) (by kernel_rfl) (by kernel_rfl)) ?_
  intro W base args ds gs before hval0 hW _ hsz0 _
  have hsz : (DataW.weightsEach Try.prog (Try.f14.params.toList ++ Rows.integerSquaresSpec.plain.varTypes Try.prog) (ds ++ gs)).all (· ≤ reachBytes) = true := hsz0
  clear hsz0
  have hval : ∀ (j : Nat) t v, Try.f14.params[j]? = some t → args[j]? = some v → Value.okWide Try.prog W .any base t v := hval0
  have hW' := hW
  obtain ⟨p, q, hA0, hV, rfl, _, _⟩ := hW
  have hA : DataW.TrodAll enc Try.prog W 0 (fun _ => true) true Try.f14.params.toList args.toList ds p := hA0
  rw [Try.params14] at hA hval hsz
  obtain ⟨v0, d0, rfl, rfl, h0⟩ := trodAll_one hA
  obtain ⟨rfl, rfl⟩ := trodVars_none hV
  have hv0 := hval 0 24 v0 rfl rfl
  clear hA0 hval0
  simp only [List.append_nil] at hW'
  have hlt : ∀ x ∈ p, x.block < W.heap.size := fun x hx => by simpa using hW'.lt x hx
  have hargs : ∀ (W' : World), Below W.heap.size W W' → DataW.Trod enc Try.prog W' 0 (fun b => decide (b < W.heap.size)) true 24 v0 d0 p :=
    fun W' hn => Below.trod Try.laidOut (by kernel_rfl) (of_decide_eq_true (by kernel_rfl)) h0 hn hlt
  obtain ⟨neg, A, n, c, xs, rfl, hsl⟩ := int_arg (j := 0) hsz rfl rfl hv0 h0 hlt
  refine (integerSquares_any neg A n c xs W hsl).mono fun e W' ⟨he, hn⟩ => ?_
  subst he
  refine ⟨_, rfl, _, _, _, [], p, [], hW', ?_, ?_, rfl, hn.frame _, fun h => by cases h⟩
  · exact trodAll_mk1 (shut_bool Try.underlying4 _)
  · exact trodAll_mk1 (hargs _ hn)

theorem integerSquares_named : Try.pinned.checked.prog.funcNamed Rows.integerSquaresRow.func = some 14 := by kernel_rfl
theorem integerSquares_rest : restFacts Try.prog 14 Try.f14 Rows.integerSquaresSpec Rows.integerSquaresRow = true := by kernel_rfl
theorem integerSquares_closed : joinedFacts Try.pinned.checked.prog 14 Try.f14 Rows.integerSquaresSpec Rows.integerSquaresRow = true :=
  joined_of Try.prog 14 Try.f14 Rows.integerSquaresSpec Rows.integerSquaresRow may_enter (by rw [lifts_final]; rfl) (by rw [made_so]; rfl) rfl integerSquares_rest
theorem integerSquares_inst : Try.f14.isInstance Try.pinned.checked.prog Rows.integerSquaresRow.origin Rows.integerSquaresRow.targs := of_decide_eq_true (by kernel_rfl)
theorem integerSquares_wrap : Try.f14.isWrapper Try.pinned.checked.prog Rows.integerSquaresRow.wrapper Rows.integerSquaresRow.mainSum := by
  unfold Func.isWrapper; first | (rw [if_pos (by decide +kernel)]; kernel_rfl) | (rw [if_neg (by decide +kernel)]; exact ⟨rfl, rfl⟩)
theorem integerSquares_holds : Rows.IntegerSquaresSaid :=
  OpenClaim.holds_of_wide 14 Try.f14 rfl rfl rfl rfl rfl rfl rfl ⟨rfl, rfl, rfl, rfl, rfl⟩ rfl rfl rfl rfl rfl integerSquares_named Try.func14 integerSquares_closed integerSquares_inst integerSquares_wrap
    (fun os started H enc _ => integerSquares_lifted os started H enc)

end Go.Proofs.Ytalgcppogjpilaa
