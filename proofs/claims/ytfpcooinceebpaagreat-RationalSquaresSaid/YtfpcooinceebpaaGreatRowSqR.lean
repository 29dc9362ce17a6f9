/-
  RationalSquares returns true for every rational, valid or not, whatever the memory it shares; the argument reads as before. No condition.
-/
import Derived.Test.YtfpcooinceebpaaGreatRatSq
import Derived.Test.YtfpcooinceebpaaGreatRatFacts
namespace Go.Proofs.YtfpcooinceebpaaGreat
open Go.ChangeShapes Go.WideShapes Go.ChangeAt Go.RowKit Go.Joins

set_option maxRecDepth 100000 in
theorem rationalSquares_lifted (os : Os) (started : os.Started) (H : Type) (enc : TypeId × Value → H) :
    ReturnsInHanded {} Tryz.checked os 11 .any (Rows.rationalSquaresSpec.pre6 enc Tryz.prog Tryz.f11 Rows.rationalSquaresRow.domain false) (Rows.rationalSquaresSpec.post enc Tryz.prog Tryz.f11 false true false false) := by
  refine returnsInHanded_of_change_sized (C := Tryz.checked) Tryz.own started (by kernel_rfl) Tryz.func11
    (ChangeSpec.witness6 (enc := enc) (C := Tryz.checked) false ⟨#[], #[.agg #[.bool false, .slice none 0 0, .bool false, .slice none 0 0]], []⟩ 8 (by kernel_rfl) (by kernel_rfl) (by kernel_rfl) (by kernel_rfl)) ?_
  intro W base args ds gs before hval0 hW _ hsz0 _
  have hsz : (DataW.weightsEach Tryz.prog (Tryz.f11.params.toList ++ Rows.rationalSquaresSpec.plain.varTypes Tryz.prog) (ds ++ gs)).all (· ≤ reachBytes) = true := hsz0
  clear hsz0
  have hval : ∀ (j : Nat) t v, Tryz.f11.params[j]? = some t → args[j]? = some v → Value.okWide Tryz.prog W .any base t v := hval0
  have hW' := hW
  obtain ⟨p, q, hA0, hV, rfl, _, _⟩ := hW
  have hA : DataW.TrodAll enc Tryz.prog W 0 (fun _ => true) true Tryz.f11.params.toList args.toList ds p := hA0
  rw [Tryz.params11] at hA hval hsz
  obtain ⟨v0, d0, rfl, rfl, h0⟩ := trodAll_one hA
  obtain ⟨rfl, rfl⟩ := trodVars_none hV
  have hv0 := hval 0 27 v0 rfl rfl
  clear hA0 hval0
  simp only [List.append_nil] at hW'
  have hlt : ∀ x ∈ p, x.block < W.heap.size := fun x hx => by simpa using hW'.lt x hx
  have hargs : ∀ (W' : World), Below W.heap.size W W' → DataW.Trod enc Tryz.prog W' 0 (fun b => decide (b < W.heap.size)) true 27 v0 d0 p :=
    fun W' hn => Below.trod Tryz.laidOut (by kernel_rfl) (of_decide_eq_true (by kernel_rfl)) h0 hn hlt
  obtain ⟨qa, rfl, ha⟩ := rat_arg (j := 0) hsz rfl rfl hv0 h0 hlt
  refine (rationalSquares_any qa W ha).mono fun e W' ⟨he, hn⟩ => ?_
  subst he
  refine ⟨_, rfl, _, _, _, [], p, [], hW', ?_, ?_, rfl, hn.frame _, fun h => by cases h⟩
  · exact trodAll_mk1 (shut_bool Tryz.underlying4 _)
  · exact trodAll_mk1 (hargs _ hn)

theorem rationalSquares_named : Tryz.pinned.checked.prog.funcNamed Rows.rationalSquaresRow.func = some 11 := by kernel_rfl
theorem rationalSquares_rest : restFacts Tryz.prog 11 Tryz.f11 Rows.rationalSquaresSpec Rows.rationalSquaresRow = true := by kernel_rfl
theorem rationalSquares_closed : joinedFacts Tryz.pinned.checked.prog 11 Tryz.f11 Rows.rationalSquaresSpec Rows.rationalSquaresRow = true :=
  joined_of Tryz.prog 11 Tryz.f11 Rows.rationalSquaresSpec Rows.rationalSquaresRow may_enter (by rw [lifts_final]; rfl) (by rw [made_so]; rfl) rfl rationalSquares_rest
theorem rationalSquares_inst : Tryz.f11.isInstance Tryz.pinned.checked.prog Rows.rationalSquaresRow.origin Rows.rationalSquaresRow.targs := of_decide_eq_true (by kernel_rfl)
theorem rationalSquares_wrap : Tryz.f11.isWrapper Tryz.pinned.checked.prog Rows.rationalSquaresRow.wrapper Rows.rationalSquaresRow.mainSum := by
  unfold Func.isWrapper; first | (rw [if_pos (by decide +kernel)]; kernel_rfl) | (rw [if_neg (by decide +kernel)]; exact ⟨rfl, rfl⟩)
theorem rationalSquares_holds : Rows.RationalSquaresSaid :=
  OpenClaim.holds_of_wide 11 Tryz.f11 rfl rfl rfl rfl rfl rfl rfl ⟨rfl, rfl, rfl, rfl, rfl⟩ rfl rfl rfl rfl rfl rationalSquares_named Tryz.func11 rationalSquares_closed rationalSquares_inst rationalSquares_wrap
    (fun os started H enc _ => rationalSquares_lifted os started H enc)

end Go.Proofs.YtfpcooinceebpaaGreat
