/-
  RationalMatchesArithmetic returns true for any two rationals, valid or not, whatever the memory they share; the arguments read as before. No condition.
-/
import Derived.Test.YtlibjampolcbhaaGreatRatRe
import Derived.Test.YtlibjampolcbhaaGreatRatFacts
namespace Go.Proofs.YtlibjampolcbhaaGreat
open Go.ChangeShapes Go.WideShapes Go.ChangeAt Go.RowKit Go.Joins
set_option maxRecDepth 100000 in
theorem rationalMatchesArithmetic_lifted (os : Os) (started : os.Started) (H : Type) (enc : TypeId × Value → H) :
    ReturnsInHanded {} Tryz.checked os 4 .any (Rows.rationalMatchesArithmeticSpec.pre6 enc Tryz.prog Tryz.f4 Rows.rationalMatchesArithmeticRow.domain false) (Rows.rationalMatchesArithmeticSpec.post enc Tryz.prog Tryz.f4 false true false false) := by
  refine returnsInHanded_of_change_sized (C := Tryz.checked) Tryz.own started (by kernel_rfl) Tryz.func4
    (ChangeSpec.witness6 (enc := enc) (C := Tryz.checked) false ⟨#[], #[.agg #[.bool false, .slice none 0 0, .bool false, .slice none 0 0], .agg #[.bool false, .slice none 0 0, .bool false, .slice none 0 0]], []⟩ 8 (by kernel_rfl) (by kernel_rfl) (by kernel_rfl) (by kernel_rfl)) ?_
  intro W base args ds gs before hval0 hW _ hsz0 _
  have hsz : (DataW.weightsEach Tryz.prog (Tryz.f4.params.toList ++ Rows.rationalMatchesArithmeticSpec.plain.varTypes Tryz.prog) (ds ++ gs)).all (· ≤ reachBytes) = true := hsz0
  clear hsz0
  have hval : ∀ (j : Nat) t v, Tryz.f4.params[j]? = some t → args[j]? = some v → Value.okWide Tryz.prog W .any base t v := hval0
  have hW' := hW
  obtain ⟨p, q, hA0, hV, rfl, _, _⟩ := hW
  have hA : DataW.TrodAll enc Tryz.prog W 0 (fun _ => true) true Tryz.f4.params.toList args.toList ds p := hA0
  rw [Tryz.params4] at hA hval hsz
  obtain ⟨v0, v1, d0, d1, p0, p1, rfl, rfl, rfl, h0, h1⟩ := trodAll_two hA
  obtain ⟨rfl, rfl⟩ := trodVars_none hV
  have hv0 := hval 0 27 v0 rfl rfl
  have hv1 := hval 1 27 v1 rfl rfl
  clear hA0 hval0
  simp only [List.append_nil] at hW'
  have hlt0 : ∀ x ∈ p0, x.block < W.heap.size := fun x hx => hW'.lt x (by simp [hx])
  have hlt1 : ∀ x ∈ p1, x.block < W.heap.size := fun x hx => hW'.lt x (by simp [hx])
  have hargs0 : ∀ (W' : World), Below W.heap.size W W' → DataW.Trod enc Tryz.prog W' 0 (fun b => decide (b < W.heap.size)) true 27 v0 d0 p0 :=
    fun W' hn => Below.trod Tryz.laidOut (by kernel_rfl) (of_decide_eq_true (by kernel_rfl)) h0 hn hlt0
  have hargs1 : ∀ (W' : World), Below W.heap.size W W' → DataW.Trod enc Tryz.prog W' 0 (fun b => decide (b < W.heap.size)) true 27 v1 d1 p1 :=
    fun W' hn => Below.trod Tryz.laidOut (by kernel_rfl) (of_decide_eq_true (by kernel_rfl)) h1 hn hlt1
  obtain ⟨qa, rfl, ha⟩ := rat_arg (j := 0) hsz rfl rfl hv0 h0 hlt0
  obtain ⟨qb, rfl, hb⟩ := rat_arg (j := 1) hsz rfl rfl hv1 h1 hlt1
  refine (rationalMatchesArithmetic_any qa qb W ha hb).mono fun e W' ⟨he, hn⟩ => ?_
  subst he
  refine ⟨_, rfl, _, _, _, [], p0 ++ p1, [], hW', ?_, ?_, rfl, hn.frame _, fun h => by cases h⟩
  · exact trodAll_mk1 (shut_bool Tryz.underlying4 _)
  · exact trodAll_mk2 (hargs0 _ hn) (hargs1 _ hn)
theorem rationalMatchesArithmetic_named : Tryz.pinned.checked.prog.funcNamed Rows.rationalMatchesArithmeticRow.func = some 4 := by kernel_rfl
theorem rationalMatchesArithmetic_rest : restFacts Tryz.prog 4 Tryz.f4 Rows.rationalMatchesArithmeticSpec Rows.rationalMatchesArithmeticRow = true := by kernel_rfl
theorem rationalMatchesArithmetic_closed : joinedFacts Tryz.pinned.checked.prog 4 Tryz.f4 Rows.rationalMatchesArithmeticSpec Rows.rationalMatchesArithmeticRow = true :=
  joined_of Tryz.prog 4 Tryz.f4 Rows.rationalMatchesArithmeticSpec Rows.rationalMatchesArithmeticRow may_enter (by rw [lifts_final]; rfl) (by rw [made_so]; rfl) rfl rationalMatchesArithmetic_rest
theorem rationalMatchesArithmetic_inst : Tryz.f4.isInstance Tryz.pinned.checked.prog Rows.rationalMatchesArithmeticRow.origin Rows.rationalMatchesArithmeticRow.targs := of_decide_eq_true (by kernel_rfl)
theorem rationalMatchesArithmetic_wrap : Tryz.f4.isWrapper Tryz.pinned.checked.prog Rows.rationalMatchesArithmeticRow.wrapper Rows.rationalMatchesArithmeticRow.mainSum := by
  unfold Func.isWrapper; first | (rw [if_pos (by decide +kernel)]; kernel_rfl) | (rw [if_neg (by decide +kernel)]; exact ⟨rfl, rfl⟩)
theorem rationalMatchesArithmetic_holds : Rows.RationalMatchesArithmeticSaid :=
  OpenClaim.holds_of_wide 4 Tryz.f4 rfl rfl rfl rfl rfl rfl rfl ⟨rfl, rfl, rfl, rfl, rfl⟩ rfl rfl rfl rfl rfl rationalMatchesArithmetic_named Tryz.func4 rationalMatchesArithmetic_closed rationalMatchesArithmetic_inst rationalMatchesArithmetic_wrap
    (fun os started H enc _ => rationalMatchesArithmetic_lifted os started H enc)
end Go.Proofs.YtlibjampolcbhaaGreat
