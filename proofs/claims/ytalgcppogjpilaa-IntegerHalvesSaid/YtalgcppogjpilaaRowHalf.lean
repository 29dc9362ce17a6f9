/-
  IntegerHalves returns true for any integer, valid or not, and any int; the arguments read as before. No condition.
-/
import Derived.Test.YtalgcppogjpilaaLawHalfA
import Derived.Test.YtalgcppogjpilaaFacts
namespace Go.Proofs.Ytalgcppogjpilaa
open Go.ChangeShapes Go.WideShapes Go.ChangeAt Go.RowKit Go.Joins

set_option maxRecDepth 100000 in
theorem integerHalves_lifted (os : Os) (started : os.Started) (H : Type) (enc : TypeId × Value → H) :
    ReturnsInHanded {} Try.checked os 15 .any (Rows.integerHalvesSpec.pre6 enc Try.prog Try.f15 Rows.integerHalvesRow.domain false) (Rows.integerHalvesSpec.post enc Try.prog Try.f15 false true false false) := by
  refine returnsInHanded_of_change_sized (C := Try.checked) Try.own started (by kernel_rfl) Try.func15
    (ChangeSpec.witness6 (enc := enc) (C := Try.checked) false ⟨#[], #[.agg #[.bool false, .slice none 0 0], .int .i64 0], []⟩ 8 (by kernel_rfl) (by kernel_rfl) (by kernel_rfl) (by kernel_rfl)) ?_
  intro W base args ds gs before hval0 hW _ hsz0 _
  have hsz : (DataW.weightsEach Try.prog (Try.f15.params.toList ++ Rows.integerHalvesSpec.plain.varTypes Try.prog) (ds ++ gs)).all (· ≤ reachBytes) = true := hsz0
  clear hsz0
  have hval : ∀ (j : Nat) t v, Try.f15.params[j]? = some t → args[j]? = some v → Value.okWide Try.prog W .any base t v := hval0
  have hW' := hW
  obtain ⟨p, q, hA0, hV, rfl, _, _⟩ := hW
  have hA : DataW.TrodAll enc Try.prog W 0 (fun _ => true) true Try.f15.params.toList args.toList ds p := hA0
  rw [Try.params15] at hA hval hsz
  obtain ⟨v0, v1, d0, d1, p0, p1, rfl, rfl, rfl, h0, h1⟩ := trodAll_two hA
  obtain ⟨rfl, rfl⟩ := trodVars_none hV
  have hv0 := hval 0 24 v0 rfl rfl
  obtain ⟨z, rfl, rfl, rfl, wz⟩ := open_int Try.underlying3 (hval 1 3 v1 rfl rfl) h1
  clear hA0 hval0
  simp only [List.append_nil] at hW'
  have hlt : ∀ x ∈ p0, x.block < W.heap.size := fun x hx => by simpa using hW'.lt x hx
  have hargs : ∀ (W' : World), Below W.heap.size W W' → DataW.Trod enc Try.prog W' 0 (fun b => decide (b < W.heap.size)) true 24 v0 d0 p0 :=
    fun W' hn => Below.trod Try.laidOut (by kernel_rfl) (of_decide_eq_true (by kernel_rfl)) h0 hn hlt
  obtain ⟨neg, A, n, c, xs, rfl, hsl⟩ := int_arg (j := 0) hsz rfl rfl hv0 h0 hlt
  refine (integerHalves_any neg A n c xs z W hsl).mono fun e W' ⟨he, hn⟩ => ?_
  subst he
  refine ⟨_, rfl, _, _, _, [], p0 ++ [], [], hW', ?_, ?_, rfl, hn.frame _, fun h => by cases h⟩
  · exact trodAll_mk1 (shut_bool Try.underlying4 _)
  · exact trodAll_mk2 (hargs _ hn) (shut_int Try.underlying3 wz)

theorem integerHalves_named : Try.pinned.checked.prog.funcNamed Rows.integerHalvesRow.func = some 15 := by kernel_rfl
theorem integerHalves_rest : restFacts Try.prog 15 Try.f15 Rows.integerHalvesSpec Rows.integerHalvesRow = true := by kernel_rfl
theorem integerHalves_closed : joinedFacts Try.pinned.checked.prog 15 Try.f15 Rows.integerHalvesSpec Rows.integerHalvesRow = true :=
  joined_of Try.prog 15 Try.f15 Rows.integerHalvesSpec Rows.integerHalvesRow may_enter (by rw [lifts_final]; rfl) (by rw [made_so]; rfl) rfl integerHalves_rest
theorem integerHalves_inst : Try.f15.isInstance Try.pinned.checked.prog Rows.integerHalvesRow.origin Rows.integerHalvesRow.targs := of_decide_eq_true (by kernel_rfl)
theorem integerHalves_wrap : Try.f15.isWrapper Try.pinned.checked.prog Rows.integerHalvesRow.wrapper Rows.integerHalvesRow.mainSum := by
  unfold Func.isWrapper; first | (rw [if_pos (by decide +kernel)]; kernel_rfl) | (rw [if_neg (by decide +kernel)]; exact ⟨rfl, rfl⟩)
theorem integerHalves_holds : Rows.IntegerHalvesSaid :=
  OpenClaim.holds_of_wide 15 Try.f15 rfl rfl rfl rfl rfl rfl rfl ⟨rfl, rfl, rfl, rfl, rfl⟩ rfl rfl rfl rfl rfl integerHalves_named Try.func15 integerHalves_closed integerHalves_inst integerHalves_wrap
    (fun os started H enc _ => integerHalves_lifted os started H enc)

end Go.Proofs.Ytalgcppogjpilaa
