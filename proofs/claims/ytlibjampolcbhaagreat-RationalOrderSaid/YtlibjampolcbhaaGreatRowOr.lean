/-
  RationalOrder returns true for any three rationals, valid or not, whatever the memory they share; the arguments read as before. No condition.
-/
import Derived.Test.YtlibjampolcbhaaGreatRatOr
import Derived.Test.YtlibjampolcbhaaGreatRatFacts
namespace Go.Proofs.YtlibjampolcbhaaGreat
open Go.ChangeShapes Go.WideShapes Go.ChangeAt Go.RowKit Go.Joins

set_option maxRecDepth 100000 in
theorem rationalOrder_lifted (os : Os) (started : os.Started) (H : Type) (enc : TypeId × Value → H) :
    ReturnsInHanded {} Tryz.checked os 10 .any (Rows.rationalOrderSpec.pre6 enc Tryz.prog Tryz.f10 Rows.rationalOrderRow.domain false) (Rows.rationalOrderSpec.post enc Tryz.prog Tryz.f10 false true false false) := by
  refine returnsInHanded_of_change_sized (C := Tryz.checked) Tryz.own started (by kernel_rfl) Tryz.func10
    (ChangeSpec.witness6 (enc := enc) (C := Tryz.checked) false ⟨#[], #[.agg #[.bool false, .slice none 0 0, .bool false, .slice none 0 0], .agg #[.bool false, .slice none 0 0, .bool false, .slice none 0 0], .agg #[.bool false, .slice none 0 0, .bool false, .slice none 0 0]], []⟩ 8 (by kernel_rfl) (by kernel_rfl) (by kernel_rfl) (by kernel_rfl)) ?_
  intro W base args ds gs before hval0 hW _ hsz0 _
  have hsz : (DataW.weightsEach Tryz.prog (Tryz.f10.params.toList ++ Rows.rationalOrderSpec.plain.varTypes Tryz.prog) (ds ++ gs)).all (· ≤ reachBytes) = true := hsz0
  clear hsz0
  have hval : ∀ (j : Nat) t v, Tryz.f10.params[j]? = some t → args[j]? = some v → Value.okWide Tryz.prog W .any base t v := hval0
  have hW' := hW
  obtain ⟨p, q, hA0, hV, rfl, _, _⟩ := hW
  have hA : DataW.TrodAll enc Tryz.prog W 0 (fun _ => true) true Tryz.f10.params.toList args.toList ds p := hA0
  rw [Tryz.params10] at hA hval hsz
  obtain ⟨v0, v1, v2, d0, d1, d2, p0, p1, p2, rfl, rfl, rfl, h0, h1, h2⟩ := trodAll_three hA
  obtain ⟨rfl, rfl⟩ := trodVars_none hV
  have hv0 := hval 0 27 v0 rfl rfl
  have hv1 := hval 1 27 v1 rfl rfl
  have hv2 := hval 2 27 v2 rfl rfl
  clear hA0 hval0
  simp only [List.append_nil] at hW'
  have hlt0 : ∀ x ∈ p0, x.block < W.heap.size := fun x hx => hW'.lt x (by simp [hx])
  have hlt1 : ∀ x ∈ p1, x.block < W.heap.size := fun x hx => hW'.lt x (by simp [hx])
  have hlt2 : ∀ x ∈ p2, x.block < W.heap.size := fun x hx => hW'.lt x (by simp [hx])
  have hargs0 : ∀ (W' : World), Below W.heap.size W W' → DataW.Trod enc Tryz.prog W' 0 (fun b => decide (b < W.heap.size)) true 27 v0 d0 p0 :=
    fun W' hn => Below.trod Tryz.laidOut (by kernel_rfl) (of_decide_eq_true (by kernel_rfl)) h0 hn hlt0
  have hargs1 : ∀ (W' : World), Below W.heap.size W W' → DataW.Trod enc Tryz.prog W' 0 (fun b => decide (b < W.heap.size)) true 27 v1 d1 p1 :=
    fun W' hn => Below.trod Tryz.laidOut (by kernel_rfl) (of_decide_eq_true (by kernel_rfl)) h1 hn hlt1
  have hargs2 : ∀ (W' : World), Below W.heap.size W W' → DataW.Trod enc Tryz.prog W' 0 (fun b => decide (b < W.heap.size)) true 27 v2 d2 p2 :=
    fun W' hn => Below.trod Tryz.laidOut (by kernel_rfl) (of_decide_eq_true (by kernel_rfl)) h2 hn hlt2
  obtain ⟨qa, rfl, ha⟩ := rat_arg (j := 0) hsz rfl rfl hv0 h0 hlt0
  obtain ⟨qb, rfl, hb⟩ := rat_arg (j := 1) hsz rfl rfl hv1 h1 hlt1
  obtain ⟨qc, rfl, hc⟩ := rat_arg (j := 2) hsz rfl rfl hv2 h2 hlt2
  refine (rationalOrder_any qa qb qc W ha hb hc).mono fun e W' ⟨he, hn⟩ => ?_
  subst he
  refine ⟨_, rfl, _, _, _, [], p0 ++ p1 ++ p2, [], hW', ?_, ?_, rfl, hn.frame _, fun h => by cases h⟩
  · exact trodAll_mk1 (shut_bool Tryz.underlying4 _)
  · have hm := trodAll_mk3 (hargs0 _ hn) (hargs1 _ hn) (hargs2 _ hn)
    rw [← List.append_assoc] at hm
    exact hm

theorem rationalOrder_named : Tryz.pinned.checked.prog.funcNamed Rows.rationalOrderRow.func = some 10 := by kernel_rfl
theorem rationalOrder_rest : restFacts Tryz.prog 10 Tryz.f10 Rows.rationalOrderSpec Rows.rationalOrderRow = true := by kernel_rfl
theorem rationalOrder_closed : joinedFacts Tryz.pinned.checked.prog 10 Tryz.f10 Rows.rationalOrderSpec Rows.rationalOrderRow = true :=
  joined_of Tryz.prog 10 Tryz.f10 Rows.rationalOrderSpec Rows.rationalOrderRow may_enter (by rw [lifts_final]; rfl) (by rw [made_so]; rfl) rfl rationalOrder_rest
theorem rationalOrder_inst : Tryz.f10.isInstance Tryz.pinned.checked.prog Rows.rationalOrderRow.origin Rows.rationalOrderRow.targs := of_decide_eq_true (by kernel_rfl)
theorem rationalOrder_wrap : Tryz.f10.isWrapper Tryz.pinned.checked.prog Rows.rationalOrderRow.wrapper Rows.rationalOrderRow.mainSum := by
  unfold Func.isWrapper; first | (rw [if_pos (by decide +kernel)]; kernel_rfl) | (rw [if_neg (by decide +kernel)]; exact ⟨rfl, rfl⟩)
theorem rationalOrder_holds : Rows.RationalOrderSaid :=
  OpenClaim.holds_of_wide 10 Tryz.f10 rfl rfl rfl rfl rfl rfl rfl ⟨rfl, rfl, rfl, rfl, rfl⟩ rfl rfl rfl rfl rfl rationalOrder_named Tryz.func10 rationalOrder_closed rationalOrder_inst rationalOrder_wrap
    (fun os started H enc _ => rationalOrder_lifted os started H enc)

end Go.Proofs.YtlibjampolcbhaaGreat
