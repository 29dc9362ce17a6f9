/-
  RationalMatchesText returns true for every rational, valid or not, and every string, whatever the memory they share; the arguments read as before. No condition.
-/
import Derived.Carry
import Derived.ChangeMaps5
import Derived.Test.YtlibjampolcbhaaGreatRatMt
import Derived.Test.YtlibjampolcbhaaGreatRatFacts
namespace Go.Proofs.YtlibjampolcbhaaGreat
open Go.ChangeShapes Go.WideShapes Go.ChangeAt Go.RowKit Go.Joins
set_option maxRecDepth 100000 in
theorem rationalMatchesText_lifted (os : Os) (started : os.Started) (H : Type) (enc : TypeId × Value → H) :
    ReturnsInHanded {} Tryz.checked os 7 .any (Rows.rationalMatchesTextSpec.pre6 enc Tryz.prog Tryz.f7 Rows.rationalMatchesTextRow.domain false) (Rows.rationalMatchesTextSpec.post enc Tryz.prog Tryz.f7 false true false false) := by
  refine returnsInHanded_of_change_sized (C := Tryz.checked) Tryz.own started (by kernel_rfl) Tryz.func7
    (ChangeSpec.witness6 (enc := enc) (C := Tryz.checked) false ⟨#[], #[.agg #[.bool false, .slice none 0 0, .bool false, .slice none 0 0], .string ⟨#[]⟩], []⟩ 8 (by kernel_rfl) (by kernel_rfl) (by kernel_rfl) (by kernel_rfl)) ?_
  intro W base args ds gs before hval0 hW _ hsz0 _
  have hsz : (DataW.weightsEach Tryz.prog (Tryz.f7.params.toList ++ Rows.rationalMatchesTextSpec.plain.varTypes Tryz.prog) (ds ++ gs)).all (· ≤ reachBytes) = true := hsz0
  clear hsz0
  have hval : ∀ (j : Nat) t v, Tryz.f7.params[j]? = some t → args[j]? = some v → Value.okWide Tryz.prog W .any base t v := hval0
  have hW' := hW
  obtain ⟨p, q, hA0, hV, rfl, _, _⟩ := hW
  have hA : DataW.TrodAll enc Tryz.prog W 0 (fun _ => true) true Tryz.f7.params.toList args.toList ds p := hA0
  rw [Tryz.params7] at hA hval hsz
  obtain ⟨v0, v1, d0, d1, p0, p1, rfl, rfl, rfl, h0, h1⟩ := trodAll_two hA
  obtain ⟨rfl, rfl⟩ := trodVars_none hV
  have hv0 := hval 0 27 v0 rfl rfl
  obtain ⟨s1, rfl, rfl, rfl, wz1⟩ := Go.ChangeMaps.open_string Tryz.underlying9 (hval 1 9 v1 rfl rfl) h1
  have hss1 : s1.size ≤ 140737488351232 := by
    have := List.all_eq_true.1 hsz _ (DataW.weights_mem_each (j := 1) (t := 9) rfl rfl s1.data.toList.length (by simp [DataW.weights]))
    have h2 := of_decide_eq_true this
    simpa [reachBytes] using h2
  clear hA0 hval0
  simp only [List.append_nil] at hW'
  have hlt0 : ∀ x ∈ p0, x.block < W.heap.size := fun x hx => hW'.lt x (by simp [hx])
  have hargs0 : ∀ (W' : World), Below W.heap.size W W' → DataW.Trod enc Tryz.prog W' 0 (fun b => decide (b < W.heap.size)) true 27 v0 d0 p0 :=
    fun W' hn => Below.trod Tryz.laidOut (by kernel_rfl) (of_decide_eq_true (by kernel_rfl)) h0 hn hlt0
  obtain ⟨q0, rfl, hs0⟩ := rat_arg (j := 0) hsz rfl rfl hv0 h0 hlt0
  refine (rationalMatchesText_any q0 s1 W hs0 hss1).mono fun e W' ⟨he, hn⟩ => ?_
  subst he
  refine ⟨_, rfl, _, _, _, [], p0 ++ [], [], hW', ?_, ?_, rfl, hn.frame _, fun h => by cases h⟩
  · exact trodAll_mk1 (shut_bool Tryz.underlying4 _)
  · exact trodAll_mk2 (hargs0 _ hn) (Go.ChangeMaps.shut_string Tryz.underlying9 wz1)
theorem rationalMatchesText_named : Tryz.pinned.checked.prog.funcNamed Rows.rationalMatchesTextRow.func = some 7 := by kernel_rfl
theorem rationalMatchesText_rest : restFacts Tryz.prog 7 Tryz.f7 Rows.rationalMatchesTextSpec Rows.rationalMatchesTextRow = true := by kernel_rfl
theorem rationalMatchesText_closed : joinedFacts Tryz.pinned.checked.prog 7 Tryz.f7 Rows.rationalMatchesTextSpec Rows.rationalMatchesTextRow = true :=
  joined_of Tryz.prog 7 Tryz.f7 Rows.rationalMatchesTextSpec Rows.rationalMatchesTextRow may_enter (by rw [lifts_final]; rfl) (by rw [made_so]; rfl) rfl rationalMatchesText_rest
theorem rationalMatchesText_inst : Tryz.f7.isInstance Tryz.pinned.checked.prog Rows.rationalMatchesTextRow.origin Rows.rationalMatchesTextRow.targs := of_decide_eq_true (by kernel_rfl)
theorem rationalMatchesText_wrap : Tryz.f7.isWrapper Tryz.pinned.checked.prog Rows.rationalMatchesTextRow.wrapper Rows.rationalMatchesTextRow.mainSum := by
  unfold Func.isWrapper; first | (rw [if_pos (by decide +kernel)]; kernel_rfl) | (rw [if_neg (by decide +kernel)]; exact ⟨rfl, rfl⟩)
theorem rationalMatchesText_holds : Rows.RationalMatchesTextSaid :=
  OpenClaim.holds_of_wide 7 Tryz.f7 rfl rfl rfl rfl rfl rfl rfl ⟨rfl, rfl, rfl, rfl, rfl⟩ rfl rfl rfl rfl rfl rationalMatchesText_named Tryz.func7 rationalMatchesText_closed rationalMatchesText_inst rationalMatchesText_wrap
    (fun os started H enc _ => rationalMatchesText_lifted os started H enc)
end Go.Proofs.YtlibjampolcbhaaGreat
