/-
  The row of IntegerTexts.
-/
import Derived.ChangeMaps5
import Derived.Test.YtalgcppogjpilaaLawTexts
import Derived.Test.YtalgcppogjpilaaFacts
namespace Go.Proofs.Ytalgcppogjpilaa
open Go.ChangeShapes Go.WideShapes Go.ChangeAt Go.RowKit Go.Joins

set_option maxRecDepth 100000 in
theorem integerTexts_lifted (os : Os) (started : os.Started) (H : Type) (enc : TypeId × Value → H) :
    ReturnsInHanded {} Try.checked os 10 .any (Rows.integerTextsSpec.pre6 enc Try.prog Try.f10 Rows.integerTextsRow.domain false) (Rows.integerTextsSpec.post enc Try.prog Try.f10 false true false false) := by
  refine returnsInHanded_of_change_sized (C := Try.checked) Try.own started (by kernel_rfl) Try.func10
    (ChangeSpec.witness6 (enc := enc) (C := Try.checked) false ⟨#[], #[.agg #[.bool false, .slice none 0 0], .string ⟨#[]⟩], []⟩ 8 (by kernel_rfl) (by kernel_rfl) (by kernel_rfl) (by kernel_rfl)) ?_
  intro W base args ds gs before hval0 hW _ hsz0 _
  have hsz : (DataW.weightsEach Try.prog (Try.f10.params.toList ++ Rows.integerTextsSpec.plain.varTypes Try.prog) (ds ++ gs)).all (· ≤ reachBytes) = true := hsz0
  clear hsz0
  have hval : ∀ (j : Nat) t v, Try.f10.params[j]? = some t → args[j]? = some v → Value.okWide Try.prog W .any base t v := hval0
  have hW' := hW
  obtain ⟨p, q, hA0, hV, rfl, _, _⟩ := hW
  have hA : DataW.TrodAll enc Try.prog W 0 (fun _ => true) true Try.f10.params.toList args.toList ds p := hA0
  rw [Try.params10] at hA hval hsz
  obtain ⟨v0, v1, d0, d1, p0, p1, rfl, rfl, rfl, h0, h1⟩ := trodAll_two hA
  obtain ⟨rfl, rfl⟩ := trodVars_none hV
  have hv0 := hval 0 24 v0 rfl rfl
  obtain ⟨s, rfl, rfl, rfl, wz⟩ := Go.ChangeMaps.open_string Try.underlying9 (hval 1 9 v1 rfl rfl) h1
  have hss : s.size ≤ 140737488351232 := by
    have := List.all_eq_true.1 hsz _ (DataW.weights_mem_each (j := 1) (t := 9) rfl rfl s.data.toList.length (by simp [DataW.weights]))
    have h2 := of_decide_eq_true this
    simpa [reachBytes] using h2
  clear hA0 hval0
  simp only [List.append_nil] at hW'
  have hlt : ∀ x ∈ p0, x.block < W.heap.size := fun x hx => by simpa using hW'.lt x hx
  have hargs : ∀ (W' : World), Below W.heap.size W W' → DataW.Trod enc Try.prog W' 0 (fun b => decide (b < W.heap.size)) true 24 v0 d0 p0 :=
    fun W' hn => Below.trod Try.laidOut (by kernel_rfl) (of_decide_eq_true (by kernel_rfl)) h0 hn hlt
  obtain ⟨neg, A, n, c, xs, rfl, hsl⟩ := int_arg (j := 0) hsz rfl rfl hv0 h0 hlt
  refine (integerTexts_any neg A n c xs s W hsl hss).mono fun e W' ⟨he, hn⟩ => ?_
  subst he
  refine ⟨_, rfl, _, _, _, [], p0 ++ [], [], hW', ?_, ?_, rfl, hn.frame _, fun h => by cases h⟩
  · exact trodAll_mk1 (shut_bool Try.underlying4 _)
  · exact trodAll_mk2 (hargs _ hn) (Go.ChangeMaps.shut_string Try.underlying9 wz)

theorem integerTexts_named : Try.pinned.checked.prog.funcNamed Rows.integerTextsRow.func = some 10 := by kernel_rfl
theorem integerTexts_rest : restFacts Try.prog 10 Try.f10 Rows.integerTextsSpec Rows.integerTextsRow = true := by kernel_rfl
theorem integerTexts_closed : joinedFacts Try.pinned.checked.prog 10 Try.f10 Rows.integerTextsSpec Rows.integerTextsRow = true :=
  joined_of Try.prog 10 Try.f10 Rows.integerTextsSpec Rows.integerTextsRow may_enter (by rw [lifts_final]; rfl) (by rw [made_so]; rfl) rfl integerTexts_rest
theorem integerTexts_inst : Try.f10.isInstance Try.pinned.checked.prog Rows.integerTextsRow.origin Rows.integerTextsRow.targs := of_decide_eq_true (by kernel_rfl)
theorem integerTexts_wrap : Try.f10.isWrapper Try.pinned.checked.prog Rows.integerTextsRow.wrapper Rows.integerTextsRow.mainSum := by
  unfold Func.isWrapper; first | (rw [if_pos (by decide +kernel)]; kernel_rfl) | (rw [if_neg (by decide +kernel)]; exact ⟨rfl, rfl⟩)
theorem integerTexts_holds : Rows.IntegerTextsSaid :=
  OpenClaim.holds_of_wide 10 Try.f10 rfl rfl rfl rfl rfl rfl rfl ⟨rfl, rfl, rfl, rfl, rfl⟩ rfl rfl rfl rfl rfl integerTexts_named Try.func10 integerTexts_closed integerTexts_inst integerTexts_wrap
    (fun os started H enc _ => integerTexts_lifted os started H enc)

end Go.Proofs.Ytalgcppogjpilaa
