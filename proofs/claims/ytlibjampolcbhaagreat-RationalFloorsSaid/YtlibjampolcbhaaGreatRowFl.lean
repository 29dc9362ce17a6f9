/-
  RationalFloors returns true for every rational, valid or not, and every number of bits, whatever the memory it shares; the arguments read as before. No condition.
-/
import Derived.Test.YtlibjampolcbhaaGreatRatFlA
import Derived.Test.YtlibjampolcbhaaGreatRatFacts
namespace Go.Proofs.YtlibjampolcbhaaGreat
open Go.ChangeShapes Go.WideShapes Go.ChangeAt Go.RowKit Go.Joins

set_option maxRecDepth 100000 in
theorem rationalFloors_lifted (os : Os) (started : os.Started) (H : Type) (enc : TypeId × Value → H) :
    ReturnsInHanded {} Tryz.checked os 12 .any (Rows.rationalFloorsSpec.pre6 enc Tryz.prog Tryz.f12 Rows.rationalFloorsRow.domain false) (Rows.rationalFloorsSpec.post enc Tryz.prog Tryz.f12 false true false false) := by
  refine returnsInHanded_of_change_sized (C := Tryz.checked) Tryz.own started (by kernel_rfl) Tryz.func12
    (ChangeSpec.witness6 (enc := enc) (C := Tryz.checked) false ⟨#[], #[.agg #[.bool false, .slice none 0 0, .bool false, .slice none 0 0], .int .i64 0], []⟩ 8 (by kernel_rfl) (by kernel_rfl) (by kernel_rfl) (by kernel_rfl)) ?_
  intro W base args ds gs before hval0 hW _ hsz0 _
  have hsz : (DataW.weightsEach Tryz.prog (Tryz.f12.params.toList ++ Rows.rationalFloorsSpec.plain.varTypes Tryz.prog) (ds ++ gs)).all (· ≤ reachBytes) = true := hsz0
  clear hsz0
  have hval : ∀ (j : Nat) t v, Tryz.f12.params[j]? = some t → args[j]? = some v → Value.okWide Tryz.prog W .any base t v := hval0
  have hW' := hW
  obtain ⟨p, q, hA0, hV, rfl, _, _⟩ := hW
  have hA : DataW.TrodAll enc Tryz.prog W 0 (fun _ => true) true Tryz.f12.params.toList args.toList ds p := hA0
  rw [Tryz.params12] at hA hval hsz
  obtain ⟨v0, v1, d0, d1, p0, p1, rfl, rfl, rfl, h0, h1⟩ := trodAll_two hA
  obtain ⟨rfl, rfl⟩ := trodVars_none hV
  have hv0 := hval 0 27 v0 rfl rfl
  obtain ⟨z, rfl, rfl, rfl, wz⟩ := open_int Tryz.underlying3 (hval 1 3 v1 rfl rfl) h1
  clear hA0 hval0
  simp only [List.append_nil] at hW'
  have hlt : ∀ x ∈ p0, x.block < W.heap.size := fun x hx => by simpa using hW'.lt x hx
  have hargs : ∀ (W' : World), Below W.heap.size W W' → DataW.Trod enc Tryz.prog W' 0 (fun b => decide (b < W.heap.size)) true 27 v0 d0 p0 :=
    fun W' hn => Below.trod Tryz.laidOut (by kernel_rfl) (of_decide_eq_true (by kernel_rfl)) h0 hn hlt
  obtain ⟨qa, rfl, ha⟩ := rat_arg (j := 0) hsz rfl rfl hv0 h0 hlt
  refine (rationalFloors_any qa z W ha (i64_bounds wz).1 (i64_bounds wz).2).mono fun e W' ⟨he, hn⟩ => ?_
  subst he
  refine ⟨_, rfl, _, _, _, [], p0 ++ [], [], hW', ?_, ?_, rfl, hn.frame _, fun h => by cases h⟩
  · exact trodAll_mk1 (shut_bool Tryz.underlying4 _)
  · exact trodAll_mk2 (hargs _ hn) (shut_int Tryz.underlying3 wz)

theorem rationalFloors_named : Tryz.pinned.checked.prog.funcNamed Rows.rationalFloorsRow.func = some 12 := by kernel_rfl
theorem rationalFloors_rest : restFacts Tryz.prog 12 Tryz.f12 Rows.rationalFloorsSpec Rows.rationalFloorsRow = true := by kernel_rfl
theorem rationalFloors_closed : joinedFacts Tryz.pinned.checked.prog 12 Tryz.f12 Rows.rationalFloorsSpec Rows.rationalFloorsRow = true :=
  joined_of Tryz.prog 12 Tryz.f12 Rows.rationalFloorsSpec Rows.rationalFloorsRow may_enter (by rw [lifts_final]; rfl) (by rw [made_so]; rfl) rfl rationalFloors_rest
theorem rationalFloors_inst : Tryz.f12.isInstance Tryz.pinned.checked.prog Rows.rationalFloorsRow.origin Rows.rationalFloorsRow.targs := of_decide_eq_true (by kernel_rfl)
theorem rationalFloors_wrap : Tryz.f12.isWrapper Tryz.pinned.checked.prog Rows.rationalFloorsRow.wrapper Rows.rationalFloorsRow.mainSum := by
  unfold Func.isWrapper; first | (rw [if_pos (by decide +kernel)]; kernel_rfl) | (rw [if_neg (by decide +kernel)]; exact ⟨rfl, rfl⟩)
theorem rationalFloors_holds : Rows.RationalFloorsSaid :=
  OpenClaim.holds_of_wide 12 Tryz.f12 rfl rfl rfl rfl rfl rfl rfl ⟨rfl, rfl, rfl, rfl, rfl⟩ rfl rfl rfl rfl rfl rationalFloors_named Tryz.func12 rationalFloors_closed rationalFloors_inst rationalFloors_wrap
    (fun os started H enc _ => rationalFloors_lifted os started H enc)

end Go.Proofs.YtlibjampolcbhaaGreat
