/-
  IntegerRoots returns true for every integer, valid or not, whatever the memory; the argument reads as before. No condition.
-/
import Derived.Test.YtalgcppogjpilaaRootsP
import Derived.Test.YtalgcppogjpilaaFacts
namespace Go.Proofs.Ytalgcppogjpilaa
open Go.ChangeShapes Go.WideShapes Go.ChangeAt Go.RowKit Go.Joins

set_option maxRecDepth 100000 in
theorem integerRoots_lifted (os : Os) (started : os.Started) (H : Type) (enc : TypeId × Value → H) :
    ReturnsInHanded {} Try.checked os 8 .any (Rows.integerRootsSpec.pre6 enc Try.prog Try.f8 Rows.integerRootsRow.domain false) (Rows.integerRootsSpec.post enc Try.prog Try.f8 false true false false) := by
  refine returnsInHanded_of_change_sized (C := Try.checked) Try.own started (by kernel_rfl) Try.func8
    (ChangeSpec.witness6 (enc := enc) (C := Try.checked) false ⟨#[], #[.agg #[.bool false, .slice none 0 0]], []⟩ 8 (by kernel_rfl) (by kernel_rfl) (by kernel_rfl) (by kernel_rfl)) ?_
  intro W base args ds gs before hval0 hW _ hsz0 _
  have hsz : (DataW.weightsEach Try.prog (Try.f8.params.toList ++ Rows.integerRootsSpec.plain.varTypes Try.prog) (ds ++ gs)).all (· ≤ reachBytes) = true := hsz0
  clear hsz0
  have hval : ∀ (j : Nat) t v, Try.f8.params[j]? = some t → args[j]? = some v → Value.okWide Try.prog W .any base t v := hval0
  have hW' := hW
  obtain ⟨p, q, hA0, hV, rfl, _, _⟩ := hW
  have hA : DataW.TrodAll enc Try.prog W 0 (fun _ => true) true Try.f8.params.toList args.toList ds p := hA0
  rw [Try.params8] at hA hval hsz
  obtain ⟨v0, d0, rfl, rfl, h0⟩ := trodAll_one hA
  obtain ⟨rfl, rfl⟩ := trodVars_none hV
  have hv0 := hval 0 24 v0 rfl rfl
  clear hA0 hval0
  simp only [List.append_nil] at hW'
  have hlt : ∀ x ∈ p, x.block < W.heap.size := fun x hx => by simpa using hW'.lt x hx
  have hargs : ∀ (W' : World), Below W.heap.size W W' → DataW.Trod enc Try.prog W' 0 (fun b => decide (b < W.heap.size)) true 24 v0 d0 p :=
    fun W' hn => Below.trod Try.laidOut (by kernel_rfl) (of_decide_eq_true (by kernel_rfl)) h0 hn hlt
  obtain ⟨neg, A, n, c, xs, rfl, hsl⟩ := int_arg (j := 0) hsz rfl rfl hv0 h0 hlt
  refine (integerRoots_any neg A n c xs W hsl).mono fun e W' ⟨he, hn⟩ => ?_
  subst he
  refine ⟨_, rfl, _, _, _, [], p, [], hW', ?_, ?_, rfl, hn.frame _, fun h => by cases h⟩
  · exact trodAll_mk1 (shut_bool Try.underlying4 _)
  · exact trodAll_mk1 (hargs _ hn)

theorem integerRoots_named : Try.pinned.checked.prog.funcNamed Rows.integerRootsRow.func = some 8 := by kernel_rfl
theorem integerRoots_rest : restFacts Try.prog 8 Try.f8 Rows.integerRootsSpec Rows.integerRootsRow = true := by kernel_rfl
theorem integerRoots_closed : joinedFacts Try.pinned.checked.prog 8 Try.f8 Rows.integerRootsSpec Rows.integerRootsRow = true :=
  joined_of Try.prog 8 Try.f8 Rows.integerRootsSpec Rows.integerRootsRow may_enter (by rw [lifts_final]; rfl) (by rw [made_so]; rfl) rfl integerRoots_rest
theorem integerRoots_inst : Try.f8.isInstance Try.pinned.checked.prog Rows.integerRootsRow.origin Rows.integerRootsRow.targs := of_decide_eq_true (by kernel_rfl)
theorem integerRoots_wrap : Try.f8.isWrapper Try.pinned.checked.prog Rows.integerRootsRow.wrapper Rows.integerRootsRow.mainSum := by
  unfold Func.isWrapper; first | (rw [if_pos (by decide +kernel)]; kernel_rfl) | (rw [if_neg (by decide +kernel)]; exact ⟨rfl, rfl⟩)
theorem integerRoots_holds : Rows.IntegerRootsSaid :=
  OpenClaim.holds_of_wide 8 Try.f8 rfl rfl rfl rfl rfl rfl rfl ⟨rfl, rfl, rfl, rfl, rfl⟩ rfl rfl rfl rfl rfl integerRoots_named Try.func8 integerRoots_closed integerRoots_inst integerRoots_wrap
    (fun os started H enc _ => integerRoots_lifted os started H enc)

end Go.Proofs.Ytalgcppogjpilaa
