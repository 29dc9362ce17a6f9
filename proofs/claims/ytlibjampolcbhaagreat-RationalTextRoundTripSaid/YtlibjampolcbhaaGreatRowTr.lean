/-
  RationalTextRoundTrip returns true for every rational, valid or not, and every string, whatever the memory they share; the arguments read as before. No condition.
-/
import Derived.ChangeMaps5
import Derived.Test.YtlibjampolcbhaaGreatRatTr
import Derived.Test.YtlibjampolcbhaaGreatRatFacts
namespace Go.Proofs.YtlibjampolcbhaaGreat
open Go.ChangeShapes Go.WideShapes Go.ChangeAt Go.RowKit Go.Joins

set_option maxRecDepth 100000 in
theorem rationalTextRoundTrip_lifted (os : Os) (started : os.Started) (H : Type) (enc : TypeId × Value → H) :
    ReturnsInHanded {} Tryz.checked os 13 .any (Rows.rationalTextRoundTripSpec.pre6 enc Tryz.prog Tryz.f13 Rows.rationalTextRoundTripRow.domain false) (Rows.rationalTextRoundTripSpec.post enc Tryz.prog Tryz.f13 false true false false) := by
  refine returnsInHanded_of_change_sized (C := Tryz.checked) Tryz.own started (by kernel_rfl) Tryz.func13
    (ChangeSpec.witness6 (enc := enc) (C := Tryz.checked) false ⟨#[], #[.agg #[.bool false, .slice none 0 0, .bool false, .slice none 0 0], .string ⟨#[]⟩], []⟩ 8 (by kernel_rfl) (by kernel_rfl) (by kernel_rfl) (by kernel_rfl)) ?_
  intro W base args ds gs before hval0 hW _ hsz0 _
  have hsz : (DataW.weightsEach Tryz.prog (Tryz.f13.params.toList ++ Rows.rationalTextRoundTripSpec.plain.varTypes Tryz.prog) (ds ++ gs)).all (· ≤ reachBytes) = true := hsz0
  clear hsz0
  have hval : ∀ (j : Nat) t v, Tryz.f13.params[j]? = some t → args[j]? = some v → Value.okWide Tryz.prog W .any base t v := hval0
  have hW' := hW
  obtain ⟨p, q, hA0, hV, rfl, _, _⟩ := hW
  have hA : DataW.TrodAll enc Tryz.prog W 0 (fun _ => true) true Tryz.f13.params.toList args.toList ds p := hA0
  rw [Tryz.params13] at hA hval hsz
  obtain ⟨v0, v1, d0, d1, p0, p1, rfl, rfl, rfl, h0, h1⟩ := trodAll_two hA
  obtain ⟨rfl, rfl⟩ := trodVars_none hV
  have hv0 := hval 0 27 v0 rfl rfl
  obtain ⟨s, rfl, rfl, rfl, wz⟩ := Go.ChangeMaps.open_string Tryz.underlying9 (hval 1 9 v1 rfl rfl) h1
  clear hA0 hval0
  simp only [List.append_nil] at hW'
  have hlt : ∀ x ∈ p0, x.block < W.heap.size := fun x hx => by simpa using hW'.lt x hx
  have hargs : ∀ (W' : World), Below W.heap.size W W' → DataW.Trod enc Tryz.prog W' 0 (fun b => decide (b < W.heap.size)) true 27 v0 d0 p0 :=
    fun W' hn => Below.trod Tryz.laidOut (by kernel_rfl) (of_decide_eq_true (by kernel_rfl)) h0 hn hlt
  obtain ⟨qa, rfl, ha⟩ := rat_arg (j := 0) hsz rfl rfl hv0 h0 hlt
  refine (rationalTextRoundTrip_any qa s W ha).mono fun e W' ⟨he, hn⟩ => ?_
  subst he
  refine ⟨_, rfl, _, _, _, [], p0 ++ [], [], hW', ?_, ?_, rfl, hn.frame _, fun h => by cases h⟩
  · exact trodAll_mk1 (shut_bool Tryz.underlying4 _)
  · exact trodAll_mk2 (hargs _ hn) (Go.ChangeMaps.shut_string Tryz.underlying9 wz)

theorem rationalTextRoundTrip_named : Tryz.pinned.checked.prog.funcNamed Rows.rationalTextRoundTripRow.func = some 13 := by kernel_rfl
theorem rationalTextRoundTrip_rest : restFacts Tryz.prog 13 Tryz.f13 Rows.rationalTextRoundTripSpec Rows.rationalTextRoundTripRow = true := by kernel_rfl
theorem rationalTextRoundTrip_closed : joinedFacts Tryz.pinned.checked.prog 13 Tryz.f13 Rows.rationalTextRoundTripSpec Rows.rationalTextRoundTripRow = true :=
  joined_of Tryz.prog 13 Tryz.f13 Rows.rationalTextRoundTripSpec Rows.rationalTextRoundTripRow may_enter (by rw [lifts_final]; rfl) (by rw [made_so]; rfl) rfl rationalTextRoundTrip_rest
theorem rationalTextRoundTrip_inst : Tryz.f13.isInstance Tryz.pinned.checked.prog Rows.rationalTextRoundTripRow.origin Rows.rationalTextRoundTripRow.targs := of_decide_eq_true (by kernel_rfl)
theorem rationalTextRoundTrip_wrap : Tryz.f13.isWrapper Tryz.pinned.checked.prog Rows.rationalTextRoundTripRow.wrapper Rows.rationalTextRoundTripRow.mainSum := by
  unfold Func.isWrapper; first | (rw [if_pos (by decide +kernel)]; kernel_rfl) | (rw [if_neg (by decide +kernel)]; exact ⟨rfl, rfl⟩)
theorem rationalTextRoundTrip_holds : Rows.RationalTextRoundTripSaid :=
  OpenClaim.holds_of_wide 13 Tryz.f13 rfl rfl rfl rfl rfl rfl rfl ⟨rfl, rfl, rfl, rfl, rfl⟩ rfl rfl rfl rfl rfl rationalTextRoundTrip_named Tryz.func13 rationalTextRoundTrip_closed rationalTextRoundTrip_inst rationalTextRoundTrip_wrap
    (fun os started H enc _ => rationalTextRoundTrip_lifted os started H enc)

end Go.Proofs.YtlibjampolcbhaaGreat
