/-
  IntegerShifts returns true for every integer, valid or not, and every count, whatever the memory they share; the arguments read as before. No condition.
-/
import Derived.Test.YtalgcppogjpilaaShiftAll
import Derived.Test.YtalgcppogjpilaaFacts
namespace Go.Proofs.Ytalgcppogjpilaa
open Go.ChangeShapes Go.WideShapes Go.ChangeAt Go.RowKit Go.Joins

set_option maxRecDepth 100000 in
theorem integerShifts_lifted (os : Os) (started : os.Started) (H : Type) (enc : TypeId × Value → H) :
    ReturnsInHanded {} Try.checked os 9 .any (Rows.integerShiftsSpec.pre6 enc Try.prog Try.f9 Rows.integerShiftsRow.domain false) (Rows.integerShiftsSpec.post enc Try.prog Try.f9 false true false false) := by
  refine returnsInHanded_of_change_sized (C := Try.checked) Try.own started (by kernel_rfl) Try.func9
    (ChangeSpec.witness6 (enc := enc) (C := Try.checked) false ⟨#[], #[.agg #[.bool false, .slice none 0 0], .int .i64 0], []⟩ 8 (by kernel_rfl) (by kernel_rfl) (by kernel_rfl) (by kernel_rfl)) ?_
  intro W base args ds gs before hval0 hW _ hsz0 _
  have hsz : (DataW.weightsEach Try.prog (Try.f9.params.toList ++ Rows.integerShiftsSpec.plain.varTypes Try.prog) (ds ++ gs)).all (· ≤ reachBytes) = true := hsz0
  clear hsz0
  have hval : ∀ (j : Nat) t v, Try.f9.params[j]? = some t → args[j]? = some v → Value.okWide Try.prog W .any base t v := hval0
  have hW' := hW
  obtain ⟨p, q, hA0, hV, rfl, _, _⟩ := hW
  have hA : DataW.TrodAll enc Try.prog W 0 (fun _ => true) true Try.f9.params.toList args.toList ds p := hA0
  rw [Try.params9] at hA hval hsz
  obtain ⟨v0, v1, d0, d1, p0, p1, rfl, rfl, rfl, h0, h1⟩ := trodAll_two hA
  obtain ⟨rfl, rfl⟩ := trodVars_none hV
  have hv0 := hval 0 24 v0 rfl rfl
  obtain ⟨z, rfl, rfl, rfl, wz⟩ := open_int Try.underlying3 (hval 1 3 v1 rfl rfl) h1
  clear hA0 hval0
  simp only [List.append_nil] at hW'
  have hlt : ∀ x ∈ p0, x.block < W.heap.size := fun x hx => by simpa using hW'.lt x hx
  have hargs : ∀ (W' : World), Below W.heap.size W W' → DataW.Trod enc Try.prog W' 0 (fun b => decide (b < W.heap.size)) true 24 v0 d0 p0 :=
    fun W' hn => Below.trod Try.laidOut (by kernel_rfl) (of_decide_eq_true (by kernel_rfl)) h0 hn hlt
  obtain ⟨neg, A, n, c, xs, rfl, hsl⟩ := int_arg (j := 0) hsz rfl rfl hv0 h0 hlt
  refine (integerShifts_any neg A n c xs z W hsl (i64_bounds wz).1 (i64_bounds wz).2).mono fun e W' ⟨he, hn⟩ => ?_
  subst he
  refine ⟨_, rfl, _, _, _, [], p0 ++ [], [], hW', ?_, ?_, rfl, hn.frame _, fun h => by cases h⟩
  · exact trodAll_mk1 (shut_bool Try.underlying4 _)
  · exact trodAll_mk2 (hargs _ hn) (shut_int Try.underlying3 wz)

theorem integerShifts_named : Try.pinned.checked.prog.funcNamed Rows.integerShiftsRow.func = some 9 := by kernel_rfl
theorem integerShifts_rest : restFacts Try.prog 9 Try.f9 Rows.integerShiftsSpec Rows.integerShiftsRow = true := by kernel_rfl
theorem integerShifts_closed : joinedFacts Try.pinned.checked.prog 9 Try.f9 Rows.integerShiftsSpec Rows.integerShiftsRow = true :=
  joined_of Try.prog 9 Try.f9 Rows.integerShiftsSpec Rows.integerShiftsRow may_enter (by rw [lifts_final]; rfl) (by rw [made_so]; rfl) rfl integerShifts_rest
theorem integerShifts_inst : Try.f9.isInstance Try.pinned.checked.prog Rows.integerShiftsRow.origin Rows.integerShiftsRow.targs := of_decide_eq_true (by kernel_rfl)
theorem integerShifts_wrap : Try.f9.isWrapper Try.pinned.checked.prog Rows.integerShiftsRow.wrapper Rows.integerShiftsRow.mainSum := by
  unfold Func.isWrapper; first | (rw [if_pos (by decide +kernel)]; kernel_rfl) | (rw [if_neg (by decide +kernel)]; exact ⟨rfl, rfl⟩)
theorem integerShifts_holds : Rows.IntegerShiftsSaid :=
  OpenClaim.holds_of_wide 9 Try.f9 rfl rfl rfl rfl rfl rfl rfl ⟨rfl, rfl, rfl, rfl, rfl⟩ rfl rfl rfl rfl rfl integerShifts_named Try.func9 integerShifts_closed integerShifts_inst integerShifts_wrap
    (fun os started H enc _ => integerShifts_lifted os started H enc)

end Go.Proofs.Ytalgcppogjpilaa
