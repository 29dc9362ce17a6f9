/-
  RationalMatchesOrder returns true for any two rationals, valid or not, and every number of bits, whatever the memory they share; the arguments read as before. No condition.
-/
import Derived.Carry
import Derived.ChangeMaps5
import Derived.Test.YtlibjampolcbhaaGreatRatMo
import Derived.Test.YtlibjampolcbhaaGreatRatFacts
namespace Go.Proofs.YtlibjampolcbhaaGreat
open Go.ChangeShapes Go.WideShapes Go.ChangeAt Go.RowKit Go.Joins
set_option maxRecDepth 100000 in
theorem rationalMatchesOrder_lifted (os : Os) (started : os.Started) (H : Type) (enc : TypeId × Value → H) :
    ReturnsInHanded {} Tryz.checked os 5 .any (Rows.rationalMatchesOrderSpec.pre6 enc Tryz.prog Tryz.f5 Rows.rationalMatchesOrderRow.domain false) (Rows.rationalMatchesOrderSpec.post enc Tryz.prog Tryz.f5 false true false false) := by
  refine returnsInHanded_of_change_sized (C := Tryz.checked) Tryz.own started (by kernel_rfl) Tryz.func5
    (ChangeSpec.witness6 (enc := enc) (C := Tryz.checked) false ⟨#[], #[.agg #[.bool false, .slice none 0 0, .bool false, .slice none 0 0], .agg #[.bool false, .slice none 0 0, .bool false, .slice none 0 0], .int .i64 0], []⟩ 8 (by kernel_rfl) (by kernel_rfl) (by kernel_rfl) (by kernel_rfl)) ?_
  intro W base args ds gs before hval0 hW _ hsz0 _
  have hsz : (DataW.weightsEach Tryz.prog (Tryz.f5.params.toList ++ Rows.rationalMatchesOrderSpec.plain.varTypes Tryz.prog) (ds ++ gs)).all (· ≤ reachBytes) = true := hsz0
  clear hsz0
  have hval : ∀ (j : Nat) t v, Tryz.f5.params[j]? = some t → args[j]? = some v → Value.okWide Tryz.prog W .any base t v := hval0
  have hW' := hW
  obtain ⟨p, q, hA0, hV, rfl, _, _⟩ := hW
  have hA : DataW.TrodAll enc Tryz.prog W 0 (fun _ => true) true Tryz.f5.params.toList args.toList ds p := hA0
  rw [Tryz.params5] at hA hval hsz
  obtain ⟨v0, v1, v2, d0, d1, d2, p0, p1, p2, rfl, rfl, rfl, h0, h1, h2⟩ := trodAll_three hA
  obtain ⟨rfl, rfl⟩ := trodVars_none hV
  have hv0 := hval 0 27 v0 rfl rfl
  have hv1 := hval 1 27 v1 rfl rfl
  obtain ⟨z2, rfl, rfl, rfl, wz2⟩ := open_int Tryz.underlying3 (hval 2 3 v2 rfl rfl) h2
  clear hA0 hval0
  simp only [List.append_nil] at hW'
  have hlt0 : ∀ x ∈ p0, x.block < W.heap.size := fun x hx => hW'.lt x (by simp [hx])
  have hargs0 : ∀ (W' : World), Below W.heap.size W W' → DataW.Trod enc Tryz.prog W' 0 (fun b => decide (b < W.heap.size)) true 27 v0 d0 p0 :=
    fun W' hn => Below.trod Tryz.laidOut (by kernel_rfl) (of_decide_eq_true (by kernel_rfl)) h0 hn hlt0
  have hlt1 : ∀ x ∈ p1, x.block < W.heap.size := fun x hx => hW'.lt x (by simp [hx])
  have hargs1 : ∀ (W' : World), Below W.heap.size W W' → DataW.Trod enc Tryz.prog W' 0 (fun b => decide (b < W.heap.size)) true 27 v1 d1 p1 :=
    fun W' hn => Below.trod Tryz.laidOut (by kernel_rfl) (of_decide_eq_true (by kernel_rfl)) h1 hn hlt1
  obtain ⟨q0, rfl, hs0⟩ := rat_arg (j := 0) hsz rfl rfl hv0 h0 hlt0
  obtain ⟨q1, rfl, hs1⟩ := rat_arg (j := 1) hsz rfl rfl hv1 h1 hlt1
  refine (rationalMatchesOrder_any q0 q1 z2 W hs0 hs1 (i64_bounds wz2).1 (i64_bounds wz2).2).mono fun e W' ⟨he, hn⟩ => ?_
  subst he
  refine ⟨_, rfl, _, _, _, [], p0 ++ (p1 ++ []), [], hW', ?_, ?_, rfl, hn.frame _, fun h => by cases h⟩
  · exact trodAll_mk1 (shut_bool Tryz.underlying4 _)
  · exact trodAll_mk3 (hargs0 _ hn) (hargs1 _ hn) (shut_int Tryz.underlying3 wz2)
theorem rationalMatchesOrder_named : Tryz.pinned.checked.prog.funcNamed Rows.rationalMatchesOrderRow.func = some 5 := by kernel_rfl
theorem rationalMatchesOrder_rest : restFacts Tryz.prog 5 Tryz.f5 Rows.rationalMatchesOrderSpec Rows.rationalMatchesOrderRow = true := by kernel_rfl
theorem rationalMatchesOrder_closed : joinedFacts Tryz.pinned.checked.prog 5 Tryz.f5 Rows.rationalMatchesOrderSpec Rows.rationalMatchesOrderRow = true :=
  joined_of Tryz.prog 5 Tryz.f5 Rows.rationalMatchesOrderSpec Rows.rationalMatchesOrderRow may_enter (by rw [lifts_final]; rfl) (by rw [made_so]; rfl) rfl rationalMatchesOrder_rest
theorem rationalMatchesOrder_inst : Tryz.f5.isInstance Tryz.pinned.checked.prog Rows.rationalMatchesOrderRow.origin Rows.rationalMatchesOrderRow.targs := of_decide_eq_true (by kernel_rfl)
theorem rationalMatchesOrder_wrap : Tryz.f5.isWrapper Tryz.pinned.checked.prog Rows.rationalMatchesOrderRow.wrapper Rows.rationalMatchesOrderRow.mainSum := by
  unfold Func.isWrapper; first | (rw [if_pos (by decide +kernel)]; kernel_rfl) | (rw [if_neg (by decide +kernel)]; exact ⟨rfl, rfl⟩)
theorem rationalMatchesOrder_holds : Rows.RationalMatchesOrderSaid :=
  OpenClaim.holds_of_wide 5 Tryz.f5 rfl rfl rfl rfl rfl rfl rfl ⟨rfl, rfl, rfl, rfl, rfl⟩ rfl rfl rfl rfl rfl rationalMatchesOrder_named Tryz.func5 rationalMatchesOrder_closed rationalMatchesOrder_inst rationalMatchesOrder_wrap
    (fun os started H enc _ => rationalMatchesOrder_lifted os started H enc)
end Go.Proofs.YtlibjampolcbhaaGreat
