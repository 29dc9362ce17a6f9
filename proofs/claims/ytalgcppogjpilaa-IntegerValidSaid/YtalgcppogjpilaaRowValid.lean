/-
  IntegerValid returns true for every integer, valid or not, and every int, whatever the memory they share; the arguments read as before. No condition.
-/
import Derived.Test.YtalgcppogjpilaaLawValid
import Derived.Test.YtalgcppogjpilaaFacts
namespace Go.Proofs.Ytalgcppogjpilaa
open Go.ChangeShapes Go.WideShapes Go.ChangeAt Go.RowKit Go.Joins

set_option maxRecDepth 100000 in
theorem integerValid_lifted (os : Os) (started : os.Started) (H : Type) (enc : TypeId × Value → H) :
    ReturnsInHanded {} Try.checked os 3 .any (Rows.integerValidSpec.pre6 enc Try.prog Try.f3 Rows.integerValidRow.domain false) (Rows.integerValidSpec.post enc Try.prog Try.f3 false true false false) := by
  refine returnsInHanded_of_change_sized (C := Try.checked) Try.own started (by kernel_rfl) Try.func3
    (ChangeSpec.witness6 (enc := enc) (C := Try.checked) false ⟨#[], #[.agg #[.bool false, .slice none 0 0], .int .i64 0], []⟩ 8 (by kernel_rfl) (by kernel_rfl) (by kernel_rfl) (by kernel_rfl)) ?_
  intro W base args ds gs before hval0 hW _ hsz0 _
  have hsz : (DataW.weightsEach Try.prog (Try.f3.params.toList ++ Rows.integerValidSpec.plain.varTypes Try.prog) (ds ++ gs)).all (· ≤ reachBytes) = true := hsz0
  clear hsz0
  have hval : ∀ (j : Nat) t v, Try.f3.params[j]? = some t → args[j]? = some v → Value.okWide Try.prog W .any base t v := hval0
  have hW' := hW
  obtain ⟨p, q, hA0, hV, rfl, _, _⟩ := hW
  have hA : DataW.TrodAll enc Try.prog W 0 (fun _ => true) true Try.f3.params.toList args.toList ds p := hA0
  rw [Try.params3] at hA hval hsz
  obtain ⟨v0, v1, d0, d1, p0, p1, rfl, rfl, rfl, h0, h1⟩ := trodAll_two hA
  obtain ⟨rfl, rfl⟩ := trodVars_none hV
  have hv0 := hval 0 24 v0 rfl rfl
  obtain ⟨z, rfl, rfl, rfl, wz⟩ := open_int Try.underlying3 (hval 1 3 v1 rfl rfl) h1
  clear hA0 hval0
  simp only [List.append_nil] at hW'
  have hlt : ∀ x ∈ p0, x.block < W.heap.size := fun x hx => by simpa using hW'.lt x hx
  have hargs : ∀ (W' : World), Below W.heap.size W W' → DataW.Trod enc Try.prog W' 0 (fun b => decide (b < W.heap.size)) true 24 v0 d0 p0 :=
    fun W' hn => Below.trod Try.laidOut (by kernel_rfl) (of_decide_eq_true (by kernel_rfl)) h0 hn hlt
  obtain ⟨neg, A, n, c, xs, rfl, hsl⟩ := int_arg (j := 0) hsz rfl rfl hv0 h0 hlt
  refine (integerValid_any neg A n c xs z W hsl (i64_bounds wz).1 (i64_bounds wz).2).mono fun e W' ⟨he, hn⟩ => ?_
  subst he
  refine ⟨_, rfl, _, _, _, [], p0 ++ [], [], hW', ?_, ?_, rfl, hn.frame _, fun h => by cases h⟩
  · exact trodAll_mk1 (shut_bool Try.underlying4 _)
  · exact trodAll_mk2 (hargs _ hn) (shut_int Try.underlying3 wz)

theorem integerValid_named : Try.pinned.checked.prog.funcNamed Rows.integerValidRow.func = some 3 := by kernel_rfl
theorem integerValid_rest : restFacts Try.prog 3 Try.f3 Rows.integerValidSpec Rows.integerValidRow = true := by kernel_rfl
theorem integerValid_closed : joinedFacts Try.pinned.checked.prog 3 Try.f3 Rows.integerValidSpec Rows.integerValidRow = true :=
  joined_of Try.prog 3 Try.f3 Rows.integerValidSpec Rows.integerValidRow may_enter (by rw [lifts_final]; rfl) (by rw [made_so]; rfl) rfl integerValid_rest
theorem integerValid_inst : Try.f3.isInstance Try.pinned.checked.prog Rows.integerValidRow.origin Rows.integerValidRow.targs := of_decide_eq_true (by kernel_rfl)
theorem integerValid_wrap : Try.f3.isWrapper Try.pinned.checked.prog Rows.integerValidRow.wrapper Rows.integerValidRow.mainSum := by
  unfold Func.isWrapper; first | (rw [if_pos (by decide +kernel)]; kernel_rfl) | (rw [if_neg (by decide +kernel)]; exact ⟨rfl, rfl⟩)
theorem integerValid_holds : Rows.IntegerValidSaid :=
  OpenClaim.holds_of_wide 3 Try.f3 rfl rfl rfl rfl rfl rfl rfl ⟨rfl, rfl, rfl, rfl, rfl⟩ rfl rfl rfl rfl rfl integerValid_named Try.func3 integerValid_closed integerValid_inst integerValid_wrap
    (fun os started H enc _ => integerValid_lifted os started H enc)

end Go.Proofs.Ytalgcppogjpilaa
