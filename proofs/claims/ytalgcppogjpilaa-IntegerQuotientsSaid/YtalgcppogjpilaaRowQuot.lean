/-
  IntegerQuotients returns true for every two integers, valid or not, whatever the memory they share; the arguments read as before. No condition.
-/
import Derived.Test.YtalgcppogjpilaaRefQuotP
import Derived.Test.YtalgcppogjpilaaFacts
namespace Go.Proofs.Ytalgcppogjpilaa
open Go.ChangeShapes Go.WideShapes Go.ChangeAt Go.RowKit Go.Joins

set_option maxRecDepth 100000 in
theorem integerQuotients_lifted (os : Os) (started : os.Started) (H : Type) (enc : TypeId × Value → H) :
    ReturnsInHanded {} Try.checked os 6 .any (Rows.integerQuotientsSpec.pre6 enc Try.prog Try.f6 Rows.integerQuotientsRow.domain false) (Rows.integerQuotientsSpec.post enc Try.prog Try.f6 false true false false) := by
  refine returnsInHanded_of_change_sized (C := Try.checked) Try.own started (by kernel_rfl) Try.func6
    (ChangeSpec.witness6 (enc := enc) (C := Try.checked) false ⟨#[], #[.agg #[.bool false, .slice none 0 0], .agg #[.bool false, .slice none 0 0]], []⟩ 8 (by kernel_rfl) (by kernel_rfl) (by kernel_rfl) (by kernel_rfl)) ?_
  intro W base args ds gs before hval0 hW _ hsz0 _
  have hsz : (DataW.weightsEach Try.prog (Try.f6.params.toList ++ Rows.integerQuotientsSpec.plain.varTypes Try.prog) (ds ++ gs)).all (· ≤ reachBytes) = true := hsz0
  clear hsz0
  have hval : ∀ (j : Nat) t v, Try.f6.params[j]? = some t → args[j]? = some v → Value.okWide Try.prog W .any base t v := hval0
  have hW' := hW
  obtain ⟨p, q, hA0, hV, rfl, _, _⟩ := hW
  have hA : DataW.TrodAll enc Try.prog W 0 (fun _ => true) true Try.f6.params.toList args.toList ds p := hA0
  rw [Try.params6] at hA hval hsz
  obtain ⟨v0, v1, d0, d1, p0, p1, rfl, rfl, rfl, h0, h1⟩ := trodAll_two hA
  obtain ⟨rfl, rfl⟩ := trodVars_none hV
  have hv0 := hval 0 24 v0 rfl rfl
  have hv1 := hval 1 24 v1 rfl rfl
  clear hA0 hval0
  simp only [List.append_nil] at hW'
  have hlt0 : ∀ x ∈ p0, x.block < W.heap.size := fun x hx => hW'.lt x (by simp [hx])
  have hlt1 : ∀ x ∈ p1, x.block < W.heap.size := fun x hx => hW'.lt x (by simp [hx])
  have hargs0 : ∀ (W' : World), Below W.heap.size W W' → DataW.Trod enc Try.prog W' 0 (fun b => decide (b < W.heap.size)) true 24 v0 d0 p0 :=
    fun W' hn => Below.trod Try.laidOut (by kernel_rfl) (of_decide_eq_true (by kernel_rfl)) h0 hn hlt0
  have hargs1 : ∀ (W' : World), Below W.heap.size W W' → DataW.Trod enc Try.prog W' 0 (fun b => decide (b < W.heap.size)) true 24 v1 d1 p1 :=
    fun W' hn => Below.trod Try.laidOut (by kernel_rfl) (of_decide_eq_true (by kernel_rfl)) h1 hn hlt1
  obtain ⟨neg, A, n, c, xs, rfl, hsl⟩ := int_arg (j := 0) hsz rfl rfl hv0 h0 hlt0
  obtain ⟨neg', A', n', c', ys, rfl, hsl'⟩ := int_arg (j := 1) hsz rfl rfl hv1 h1 hlt1
  refine (integerQuotients_any neg neg' A A' n c n' c' xs ys W hsl hsl').mono fun e W' ⟨he, hn⟩ => ?_
  subst he
  refine ⟨_, rfl, _, _, _, [], p0 ++ p1, [], hW', ?_, ?_, rfl, hn.frame _, fun h => by cases h⟩
  · exact trodAll_mk1 (shut_bool Try.underlying4 _)
  · exact trodAll_mk2 (hargs0 _ hn) (hargs1 _ hn)

theorem integerQuotients_named : Try.pinned.checked.prog.funcNamed Rows.integerQuotientsRow.func = some 6 := by kernel_rfl
theorem integerQuotients_rest : restFacts Try.prog 6 Try.f6 Rows.integerQuotientsSpec Rows.integerQuotientsRow = true := by kernel_rfl
theorem integerQuotients_closed : joinedFacts Try.pinned.checked.prog 6 Try.f6 Rows.integerQuotientsSpec Rows.integerQuotientsRow = true :=
  joined_of Try.prog 6 Try.f6 Rows.integerQuotientsSpec Rows.integerQuotientsRow may_enter (by rw [lifts_final]; rfl) (by rw [made_so]; rfl) rfl integerQuotients_rest
theorem integerQuotients_inst : Try.f6.isInstance Try.pinned.checked.prog Rows.integerQuotientsRow.origin Rows.integerQuotientsRow.targs := of_decide_eq_true (by kernel_rfl)
theorem integerQuotients_wrap : Try.f6.isWrapper Try.pinned.checked.prog Rows.integerQuotientsRow.wrapper Rows.integerQuotientsRow.mainSum := by
  unfold Func.isWrapper; first | (rw [if_pos (by decide +kernel)]; kernel_rfl) | (rw [if_neg (by decide +kernel)]; exact ⟨rfl, rfl⟩)
theorem integerQuotients_holds : Rows.IntegerQuotientsSaid :=
  OpenClaim.holds_of_wide 6 Try.f6 rfl rfl rfl rfl rfl rfl rfl ⟨rfl, rfl, rfl, rfl, rfl⟩ rfl rfl rfl rfl rfl integerQuotients_named Try.func6 integerQuotients_closed integerQuotients_inst integerQuotients_wrap
    (fun os started H enc _ => integerQuotients_lifted os started H enc)

end Go.Proofs.Ytalgcppogjpilaa
