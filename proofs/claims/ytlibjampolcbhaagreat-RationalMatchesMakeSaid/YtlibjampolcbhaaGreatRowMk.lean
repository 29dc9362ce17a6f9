/-
  RationalMatchesMake returns true for any two integers, valid or not, and any two ints, whatever the memory they share; the arguments read as before. No condition.
-/
import Derived.Carry
import Derived.ChangeMaps5
import Derived.Test.YtlibjampolcbhaaGreatRatRm
import Derived.Test.YtlibjampolcbhaaGreatRatFacts
import Derived.Test.YtlibjampolcbhaaGreatRatArgZ
namespace Go.Proofs.YtlibjampolcbhaaGreat
open Go.ChangeShapes Go.WideShapes Go.ChangeAt Go.RowKit Go.Joins

set_option maxRecDepth 100000 in
theorem rationalMatchesMake_lifted (os : Os) (started : os.Started) (H : Type) (enc : TypeId × Value → H) :
    ReturnsInHanded {} Tryz.checked os 3 .any (Rows.rationalMatchesMakeSpec.pre6 enc Tryz.prog Tryz.f3 Rows.rationalMatchesMakeRow.domain false) (Rows.rationalMatchesMakeSpec.post enc Tryz.prog Tryz.f3 false true false false) := by
  refine returnsInHanded_of_change_sized (C := Tryz.checked) Tryz.own started (by kernel_rfl) Tryz.func3
    (ChangeSpec.witness6 (enc := enc) (C := Tryz.checked) false ⟨#[], #[.agg #[.bool false, .slice none 0 0], .agg #[.bool false, .slice none 0 0], .int .i64 0, .int .i64 0], []⟩ 8 (by kernel_rfl) (by kernel_rfl) (by kernel_rfl) (by kernel_rfl)) ?_
  intro W base args ds gs before hval0 hW _ hsz0 _
  have hsz : (DataW.weightsEach Tryz.prog (Tryz.f3.params.toList ++ Rows.rationalMatchesMakeSpec.plain.varTypes Tryz.prog) (ds ++ gs)).all (· ≤ reachBytes) = true := hsz0
  clear hsz0
  have hval : ∀ (j : Nat) t v, Tryz.f3.params[j]? = some t → args[j]? = some v → Value.okWide Tryz.prog W .any base t v := hval0
  have hW' := hW
  obtain ⟨p, q, hA0, hV, rfl, _, _⟩ := hW
  have hA : DataW.TrodAll enc Tryz.prog W 0 (fun _ => true) true Tryz.f3.params.toList args.toList ds p := hA0
  rw [Tryz.params3] at hA hval hsz
  obtain ⟨v0, v1, v2, v3, d0, d1, d2, d3, p0, p1, p2, p3, rfl, rfl, rfl, h0, h1, h2, h3⟩ := trodAll_four hA
  obtain ⟨rfl, rfl⟩ := trodVars_none hV
  have hv0 := hval 0 24 v0 rfl rfl
  have hv1 := hval 1 24 v1 rfl rfl
  obtain ⟨z2, rfl, rfl, rfl, wz2⟩ := open_int Tryz.underlying3 (hval 2 3 v2 rfl rfl) h2
  obtain ⟨z3, rfl, rfl, rfl, wz3⟩ := open_int Tryz.underlying3 (hval 3 3 v3 rfl rfl) h3
  clear hA0 hval0
  simp only [List.append_nil] at hW'
  have hlt0 : ∀ x ∈ p0, x.block < W.heap.size := fun x hx => hW'.lt x (by simp [hx])
  have hargs0 : ∀ (W' : World), Below W.heap.size W W' → DataW.Trod enc Tryz.prog W' 0 (fun b => decide (b < W.heap.size)) true 24 v0 d0 p0 :=
    fun W' hn => Below.trod Tryz.laidOut (by kernel_rfl) (of_decide_eq_true (by kernel_rfl)) h0 hn hlt0
  have hlt1 : ∀ x ∈ p1, x.block < W.heap.size := fun x hx => hW'.lt x (by simp [hx])
  have hargs1 : ∀ (W' : World), Below W.heap.size W W' → DataW.Trod enc Tryz.prog W' 0 (fun b => decide (b < W.heap.size)) true 24 v1 d1 p1 :=
    fun W' hn => Below.trod Tryz.laidOut (by kernel_rfl) (of_decide_eq_true (by kernel_rfl)) h1 hn hlt1
  obtain ⟨g0, A0, n0, c0, xs0, rfl, hs0⟩ := int_arg (j := 0) hsz rfl rfl hv0 h0 hlt0
  obtain ⟨g1, A1, n1, c1, xs1, rfl, hs1⟩ := int_arg (j := 1) hsz rfl rfl hv1 h1 hlt1
  refine (rationalMatchesMake_any g0 A0 n0 c0 xs0 g1 A1 n1 c1 xs1 z2 z3 W hs0 hs1 (i64_bounds wz2).1 (i64_bounds wz2).2 (i64_bounds wz3).1 (i64_bounds wz3).2).mono fun e W' ⟨he, hn⟩ => ?_
  subst he
  refine ⟨_, rfl, _, _, _, [], p0 ++ (p1 ++ ([] ++ [])), [], hW', ?_, ?_, rfl, hn.frame _, fun h => by cases h⟩
  · exact trodAll_mk1 (shut_bool Tryz.underlying4 _)
  · exact trodAll_mk4 (hargs0 _ hn) (hargs1 _ hn) (shut_int Tryz.underlying3 wz2) (shut_int Tryz.underlying3 wz3)

theorem rationalMatchesMake_named : Tryz.pinned.checked.prog.funcNamed Rows.rationalMatchesMakeRow.func = some 3 := by kernel_rfl
theorem rationalMatchesMake_rest : restFacts Tryz.prog 3 Tryz.f3 Rows.rationalMatchesMakeSpec Rows.rationalMatchesMakeRow = true := by kernel_rfl
theorem rationalMatchesMake_closed : joinedFacts Tryz.pinned.checked.prog 3 Tryz.f3 Rows.rationalMatchesMakeSpec Rows.rationalMatchesMakeRow = true :=
  joined_of Tryz.prog 3 Tryz.f3 Rows.rationalMatchesMakeSpec Rows.rationalMatchesMakeRow may_enter (by rw [lifts_final]; rfl) (by rw [made_so]; rfl) rfl rationalMatchesMake_rest
theorem rationalMatchesMake_inst : Tryz.f3.isInstance Tryz.pinned.checked.prog Rows.rationalMatchesMakeRow.origin Rows.rationalMatchesMakeRow.targs := of_decide_eq_true (by kernel_rfl)
theorem rationalMatchesMake_wrap : Tryz.f3.isWrapper Tryz.pinned.checked.prog Rows.rationalMatchesMakeRow.wrapper Rows.rationalMatchesMakeRow.mainSum := by
  unfold Func.isWrapper; first | (rw [if_pos (by decide +kernel)]; kernel_rfl) | (rw [if_neg (by decide +kernel)]; exact ⟨rfl, rfl⟩)
theorem rationalMatchesMake_holds : Rows.RationalMatchesMakeSaid :=
  OpenClaim.holds_of_wide 3 Tryz.f3 rfl rfl rfl rfl rfl rfl rfl ⟨rfl, rfl, rfl, rfl, rfl⟩ rfl rfl rfl rfl rfl rationalMatchesMake_named Tryz.func3 rationalMatchesMake_closed rationalMatchesMake_inst rationalMatchesMake_wrap
    (fun os started H enc _ => rationalMatchesMake_lifted os started H enc)

end Go.Proofs.YtlibjampolcbhaaGreat
