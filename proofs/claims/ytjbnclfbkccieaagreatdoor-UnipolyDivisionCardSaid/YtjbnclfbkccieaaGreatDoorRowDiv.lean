/-
  UnipolyDivision.
-/
import Derived.Carry
import Derived.ChangeMaps5
import Derived.SevenTiedAt
import Derived.Test.YtjbnclfbkccieaaGreatDoorBehind2
import Derived.Test.YtjbnclfbkccieaaGreatDoorTie
import Derived.Test.YtjbnclfbkccieaaGreatDoorCards
import Derived.Test.YtjbnclfbkccieaaGreatDoorLwV
import Derived.Test.YtjbnclfbkccieaaGreatDoorUniLaid
namespace Go.Proofs.YtjbnclfbkccieaaGreatDoor
open Go.ChangeShapes Go.WideShapes Go.ChangeAt Go.RowKit Go.Joins
set_option maxRecDepth 100000 in
theorem unipolyDivision_lifted (os : Os) (started : os.Started) (H : Type) (enc : TypeId × Value → H) :
    ReturnsInHanded {} Tryz.checked os 7 .any (fun w args => (Rows.unipolyDivisionSpec.pre enc Tryz.prog Tryz.f7 [] false w args ∧ laidMetH Tryz.prog laidU w) ∧ sizedMet enc Tryz.prog Tryz.f7 (OpenSpec.ofChange Rows.unipolyDivisionSpec) false w args)
      (Rows.unipolyDivisionSpec.post enc Tryz.prog Tryz.f7 false true false false) := by
  refine returnsInHanded_of_change_and (C := Tryz.checked) (X := fun w _ => laidMetH Tryz.prog laidU w) (fun _ _ _ hh h => h.of_heap hh) Tryz.own started (by kernel_rfl) Tryz.func7
    (ChangeSpec.witness_shaped (enc := enc) (C := Tryz.checked) (os := os) (X := fun w _ => laidMetH Tryz.prog laidU w) false (World.doorLaid Tryz.prog 400 os) #[.slice none 0 0, .slice none 0 0] 8 rfl (World.shaped_of_RefB (by kernel_rfl) (by kernel_rfl)) (by kernel_rfl) (by kernel_rfl) (by kernel_rfl) (door_met os _)) ?_
  intro W base args ds gs before hval0 hW _ hsz0 _ _
  have hsz : (DataW.weightsEach Tryz.prog (Tryz.f7.params.toList ++ Rows.unipolyDivisionSpec.plain.varTypes Tryz.prog) (ds ++ gs)).all (· ≤ reachBytes) = true := hsz0
  clear hsz0
  have hval : ∀ (j : Nat) t v, Tryz.f7.params[j]? = some t → args[j]? = some v → Value.okWide Tryz.prog W .any base t v := hval0
  have hW' := hW
  obtain ⟨p, q, hA0, hV, rfl, _, _⟩ := hW
  have hA : DataW.TrodAll enc Tryz.prog W 0 (fun _ => true) true Tryz.f7.params.toList args.toList ds p := hA0
  rw [Tryz.params7] at hA hval hsz
  obtain ⟨v0, v1, d0, d1, p0, p1, rfl, rfl, rfl, h0, h1⟩ := trodAll_two hA
  obtain ⟨rfl, rfl⟩ := trodVars_none hV
  have hv0 := hval 0 28 v0 rfl rfl
  have hv1 := hval 1 28 v1 rfl rfl
  clear hA0 hval0
  simp only [List.append_nil] at hW'
  have hlt0 : ∀ x ∈ p0, x.block < W.heap.size := fun x hx => hW'.lt x (by simp [hx])
  have hargs0 : ∀ (W' : World), Below W.heap.size W W' → DataW.Trod enc Tryz.prog W' 0 (fun b => decide (b < W.heap.size)) true 28 v0 d0 p0 :=
    fun W' hn => Below.trod Tryz.laidOut (by kernel_rfl) (of_decide_eq_true (by kernel_rfl)) h0 hn hlt0
  have hlt1 : ∀ x ∈ p1, x.block < W.heap.size := fun x hx => hW'.lt x (by simp [hx])
  have hargs1 : ∀ (W' : World), Below W.heap.size W W' → DataW.Trod enc Tryz.prog W' 0 (fun b => decide (b < W.heap.size)) true 28 v1 d1 p1 :=
    fun W' hn => Below.trod Tryz.laidOut (by kernel_rfl) (of_decide_eq_true (by kernel_rfl)) h1 hn hlt1
  obtain ⟨A0, n0, c0, zs0, rfl, hs0⟩ := ints_arg hv0 h0 hlt0
  obtain ⟨A1, n1, c1, zs1, rfl, hs1⟩ := ints_arg hv1 h1 hlt1
  refine (unipolyDivision_any A0 n0 c0 zs0 A1 n1 c1 zs1 W hs0 hs1).mono fun e W' ⟨he, hn⟩ => ?_
  subst he
  refine ⟨_, rfl, _, _, _, [], p0 ++ p1, [], hW', ?_, ?_, rfl, hn.frame _, fun h => by cases h⟩
  · exact trodAll_mk1 (shut_bool Tryz.underlying4 _)
  · exact trodAll_mk2 (hargs0 _ hn) (hargs1 _ hn)
theorem unipolyDivision_named : Tryz.pinned.checked.prog.funcNamed Rows.unipolyDivisionRow.func = some 7 := by kernel_rfl
theorem unipolyDivision_rest : restFacts Tryz.prog 7 Tryz.f7 Rows.unipolyDivisionSpec Rows.unipolyDivisionRow = true := by kernel_rfl
theorem unipolyDivision_closed : joinedFacts Tryz.pinned.checked.prog 7 Tryz.f7 Rows.unipolyDivisionSpec Rows.unipolyDivisionRow = true :=
  joined_of Tryz.prog 7 Tryz.f7 Rows.unipolyDivisionSpec Rows.unipolyDivisionRow may_enter (by rw [lifts_final]; rfl) (by rw [made_so]; rfl) rfl unipolyDivision_rest
theorem unipolyDivision_inst : Tryz.f7.isInstance Tryz.pinned.checked.prog Rows.unipolyDivisionRow.origin Rows.unipolyDivisionRow.targs := of_decide_eq_true (by kernel_rfl)
theorem unipolyDivision_wrap : Tryz.f7.isWrapper Tryz.pinned.checked.prog Rows.unipolyDivisionRow.wrapper Rows.unipolyDivisionRow.mainSum := by
  unfold Func.isWrapper; first | (rw [if_pos (by decide +kernel)]; kernel_rfl) | (rw [if_neg (by decide +kernel)]; exact ⟨rfl, rfl⟩)
theorem unipolyDivision_holds : Rows.UnipolyDivisionSaid :=
  OpenClaim.holds_of_wide 7 Tryz.f7 rfl rfl rfl rfl rfl rfl rfl ⟨rfl, rfl, rfl, rfl, rfl⟩ rfl rfl rfl rfl rfl unipolyDivision_named Tryz.func7 unipolyDivision_closed unipolyDivision_inst unipolyDivision_wrap
    (fun os started H enc _ => unipolyDivision_lifted os started H enc)
theorem unipolyDivision_wft : Rows.unipolyDivisionRow.wfByText (OpenSpec.ofChange Rows.unipolyDivisionSpec) = true := by kernel_rfl
theorem unipolyDivision_goes : false = Rows.unipolyDivisionRow.goesBy Tryz.prog := by kernel_rfl
/-- The tied card. -/
theorem unipolyDivision_card : Rows.UnipolyDivisionCardSaid :=
  Claim7.holds_tied_plain_at .later [] [.data, .data, .data] true (true, "92c791da22ca6296223053700614f65f0185ee7727ff9ea7f0cf8020e5fdb216") true
    unipolyDivision_holds (fun _ h => by cases h) unipolyDivision_wft (fun _ h => by cases h) unipolyDivision_row_tie rfl ⟨rfl, rfl⟩ main_is rfl
    (fun f fn hf hfn => by
      obtain rfl : f = 7 := Option.some.inj (unipolyDivision_named.symm.trans hf) |>.symm
      obtain rfl : fn = Tryz.f7 := (Option.some.inj (Tryz.func7.symm.trans hfn)).symm
      exact ⟨looks_so, fun j t ht => by
        rw [Tryz.params7] at ht
        have hm : t ∈ [28, 28] := by simpa using Array.mem_of_getElem? ht
        have hall : ([28, 28].all fun u => !Tryz.prog.wantsStandIn u) = true := by kernel_rfl
        exact (show Tryz.prog.wantsStandIn t = false by simpa using List.all_eq_true.1 hall t hm)⟩)
    unipolyDivision_goes
end Go.Proofs.YtjbnclfbkccieaaGreatDoor
