/-
 RationalMatchesSimplest returns true for any two rationals, valid or not, whatever the memory they share; the arguments read as before. No condition.
-/
import Derived.Carry
import Derived.ChangeMaps5
import Derived.Test.YtphinlongdoedaaGreatRatFacts
namespace Go.Proofs.YtphinlongdoedaaGreat
open Go.ChangeShapes Go.WideShapes Go.ChangeAt Go.RowKit Go.Joins
set_option maxRecDepth 100000
theorem rationalMatchesSimplest_lifted (os : Os) (started : os.Started) (H : Type) (enc : TypeId × Value -> H) :
 ReturnsInHanded {} Tryz.checked os 3 .any (Rows.rationalMatchesSimplestSpec.pre6 enc Tryz.prog Tryz.f3 Rows.rationalMatchesSimplestRow.domain false) (Rows.rationalMatchesSimplestSpec.post enc Tryz.prog Tryz.f3 false true false false) := by
 refine returnsInHanded_of_change_sized (C := Tryz.checked) Tryz.own started (by kernel_rfl) Tryz.func3
  (ChangeSpec.witness6 (enc := enc) (C := Tryz.checked) false ⟨#[], #[.agg #[.bool false, .slice none 0 0, .bool false, .slice none 0 0], .agg #[.bool false, .slice none 0 0, .bool false, .slice none 0 0]], []⟩ 8 (by kernel_rfl) (by kernel_rfl) (by kernel_rfl) (by kernel_rfl)) ?_
 intro W base args ds gs before hval0 hW _ hsz0 _
 have hsz : (DataW.weightsEach Tryz.prog (Tryz.f3.params.toList ++ Rows.rationalMatchesSimplestSpec.plain.varTypes Tryz.prog) (ds ++ gs)).all (· <= reachBytes) = true := hsz0
 clear hsz0
 have hval : ∀ (j : Nat) t v, Tryz.f3.params[j]? = some t -> args[j]? = some v -> Value.okWide Tryz.prog W .any base t v := hval0
 have hW' := hW
 obtain ⟨p, q, hA0, hV, rfl, _, _⟩ := hW
 have hA : DataW.TrodAll enc Tryz.prog W 0 (fun _ => true) true Tryz.f3.params.toList args.toList ds p := hA0
 rw [Tryz.params3] at hA hval hsz
 obtain ⟨v0, v1, d0, d1, p0, p1, rfl, rfl, rfl, h0, h1⟩ := trodAll_two hA
 obtain ⟨rfl, rfl⟩ := trodVars_none hV
 have hv0 := hval 0 26 v0 rfl rfl
 have hv1 := hval 1 26 v1 rfl rfl
 clear hA0 hval0
 simp only [List.append_nil] at hW'
 have hlt0 : ∀ x ∈ p0, x.block < W.heap.size := fun x hx => hW'.lt x (by simp [hx])
 have hargs0 : ∀ (W' : World), Below W.heap.size W W' -> DataW.Trod enc Tryz.prog W' 0 (fun b => decide (b < W.heap.size)) true 26 v0 d0 p0 :=
  fun W' hn => Below.trod Tryz.laidOut (by kernel_rfl) (of_decide_eq_true (by kernel_rfl)) h0 hn hlt0
 have hlt1 : ∀ x ∈ p1, x.block < W.heap.size := fun x hx => hW'.lt x (by simp [hx])
 have hargs1 : ∀ (W' : World), Below W.heap.size W W' -> DataW.Trod enc Tryz.prog W' 0 (fun b => decide (b < W.heap.size)) true 26 v1 d1 p1 :=
  fun W' hn => Below.trod Tryz.laidOut (by kernel_rfl) (of_decide_eq_true (by kernel_rfl)) h1 hn hlt1
 obtain ⟨q0, rfl, hs0⟩ := rat_arg (j := 0) hsz rfl rfl hv0 h0 hlt0
 obtain ⟨q1, rfl, hs1⟩ := rat_arg (j := 1) hsz rfl rfl hv1 h1 hlt1
 refine (rationalMatchesSimplest_any q0 q1 W hs0 hs1).mono fun e W' ⟨he, hn⟩ => ?_
 subst he
 refine ⟨_, rfl, _, _, _, [], p0 ++ p1, [], hW', ?_, ?_, rfl, hn.frame _, fun h => by cases h⟩
 . exact trodAll_mk1 (shut_bool Tryz.underlying4 _)
 . exact trodAll_mk2 (hargs0 _ hn) (hargs1 _ hn)
theorem rationalMatchesSimplest_named : Tryz.pinned.checked.prog.funcNamed Rows.rationalMatchesSimplestRow.func = some 3 := by kernel_rfl
theorem rationalMatchesSimplest_rest : zT Tryz.prog 3 Tryz.f3 Rows.rationalMatchesSimplestSpec Rows.rationalMatchesSimplestRow = true := by kernel_rfl
theorem rationalMatchesSimplest_closed : joinedFacts Tryz.pinned.checked.prog 3 Tryz.f3 Rows.rationalMatchesSimplestSpec Rows.rationalMatchesSimplestRow = true :=
 joined_of Tryz.prog 3 Tryz.f3 Rows.rationalMatchesSimplestSpec Rows.rationalMatchesSimplestRow may_enter (by rw [lifts_final]; rfl) (by rw [made_so]; rfl) rfl rationalMatchesSimplest_rest
theorem rationalMatchesSimplest_inst : Tryz.f3.isInstance Tryz.pinned.checked.prog Rows.rationalMatchesSimplestRow.origin Rows.rationalMatchesSimplestRow.targs := of_decide_eq_true (by kernel_rfl)
theorem rationalMatchesSimplest_wrap : Tryz.f3.isWrapper Tryz.pinned.checked.prog Rows.rationalMatchesSimplestRow.wrapper Rows.rationalMatchesSimplestRow.mainSum := by
 unfold Func.isWrapper; first | (rw [if_pos (by decide +kernel)]; kernel_rfl) | (rw [if_neg (by decide +kernel)]; exact ⟨rfl, rfl⟩)
theorem rationalMatchesSimplest_holds : Rows.RationalMatchesSimplestSaid :=
 OpenClaim.holds_of_wide 3 Tryz.f3 rfl rfl rfl rfl rfl rfl rfl ⟨rfl, rfl, rfl, rfl, rfl⟩ rfl rfl rfl rfl rfl rationalMatchesSimplest_named Tryz.func3 rationalMatchesSimplest_closed rationalMatchesSimplest_inst rationalMatchesSimplest_wrap
  (fun os started H enc _ => rationalMatchesSimplest_lifted os started H enc)
end Go.Proofs.YtphinlongdoedaaGreat
