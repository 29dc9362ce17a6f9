/-
  UnipolyLimits.
-/
import Derived.Carry
import Derived.ChangeMaps5
import Derived.SevenTiedAt
import Derived.Test.YtjbnclfbkccieaaGreatDoorBehind3
import Derived.Test.YtjbnclfbkccieaaGreatDoorTie
import Derived.Test.YtjbnclfbkccieaaGreatDoorCards
import Derived.Test.YtjbnclfbkccieaaGreatDoorLwL
import Derived.Test.YtjbnclfbkccieaaGreatDoorUniLaid
namespace Go.Proofs.YtjbnclfbkccieaaGreatDoor
open Go.ChangeShapes Go.WideShapes Go.ChangeAt Go.RowKit Go.Joins
set_option maxRecDepth 100000 in
theorem unipolyLimits_lifted (os : Os) (started : os.Started) (H : Type) (enc : TypeId × Value → H) :
    ReturnsInHanded {} Tryz.checked os 4 .any (fun w args => (Rows.unipolyLimitsSpec.pre enc Tryz.prog Tryz.f4 [] false w args ∧ laidMetH Tryz.prog laidU w) ∧ sizedMet enc Tryz.prog Tryz.f4 (OpenSpec.ofChange Rows.unipolyLimitsSpec) false w args)
      (Rows.unipolyLimitsSpec.post enc Tryz.prog Tryz.f4 false true false false) := by
  refine returnsInHanded_of_change_and (C := Tryz.checked) (X := fun w _ => laidMetH Tryz.prog laidU w) (fun _ _ _ hh h => h.of_heap hh) Tryz.own started (by kernel_rfl) Tryz.func4
    (ChangeSpec.witness_shaped (enc := enc) (C := Tryz.checked) (os := os) (X := fun w _ => laidMetH Tryz.prog laidU w) false (World.doorLaid Tryz.prog 400 os) #[.int .i64 0, .int .i64 0, .int .i64 0] 8 rfl (World.shaped_of_RefB (by kernel_rfl) (by kernel_rfl)) (by kernel_rfl) (by kernel_rfl) (by kernel_rfl) (door_met os _)) ?_
  intro W base args ds gs before hval0 hW _ hsz0 _ _
  have hsz : (DataW.weightsEach Tryz.prog (Tryz.f4.params.toList ++ Rows.unipolyLimitsSpec.plain.varTypes Tryz.prog) (ds ++ gs)).all (· ≤ reachBytes) = true := hsz0
  clear hsz0
  have hval : ∀ (j : Nat) t v, Tryz.f4.params[j]? = some t → args[j]? = some v → Value.okWide Tryz.prog W .any base t v := hval0
  have hW' := hW
  obtain ⟨p, q, hA0, hV, rfl, _, _⟩ := hW
  have hA : DataW.TrodAll enc Tryz.prog W 0 (fun _ => true) true Tryz.f4.params.toList args.toList ds p := hA0
  rw [Tryz.params4] at hA hval hsz
  obtain ⟨v0, v1, v2, d0, d1, d2, p0, p1, p2, rfl, rfl, rfl, h0, h1, h2⟩ := trodAll_three hA
  obtain ⟨rfl, rfl⟩ := trodVars_none hV
  obtain ⟨z0, rfl, rfl, rfl, wz0⟩ := open_int Tryz.underlying3 (hval 0 3 v0 rfl rfl) h0
  obtain ⟨z1, rfl, rfl, rfl, wz1⟩ := open_int Tryz.underlying3 (hval 1 3 v1 rfl rfl) h1
  obtain ⟨z2, rfl, rfl, rfl, wz2⟩ := open_int Tryz.underlying3 (hval 2 3 v2 rfl rfl) h2
  clear hA0 hval0
  simp only [List.append_nil] at hW'
  refine (unipolyLimits_any z0 z1 z2 W (i64_bounds wz0).1 (i64_bounds wz0).2 (i64_bounds wz1).1 (i64_bounds wz1).2 (i64_bounds wz2).1 (i64_bounds wz2).2).mono fun e W' ⟨he, hn⟩ => ?_
  subst he
  refine ⟨_, rfl, _, _, _, [], [] ++ ([] ++ []), [], hW', ?_, ?_, rfl, hn.frame _, fun h => by cases h⟩
  · exact trodAll_mk1 (shut_bool Tryz.underlying4 _)
  · exact trodAll_mk3 (shut_int Tryz.underlying3 wz0) (shut_int Tryz.underlying3 wz1) (shut_int Tryz.underlying3 wz2)
theorem unipolyLimits_named : Tryz.pinned.checked.prog.funcNamed Rows.unipolyLimitsRow.func = some 4 := by kernel_rfl
theorem unipolyLimits_rest : restFacts Tryz.prog 4 Tryz.f4 Rows.unipolyLimitsSpec Rows.unipolyLimitsRow = true := by kernel_rfl
theorem unipolyLimits_closed : joinedFacts Tryz.pinned.checked.prog 4 Tryz.f4 Rows.unipolyLimitsSpec Rows.unipolyLimitsRow = true :=
  joined_of Tryz.prog 4 Tryz.f4 Rows.unipolyLimitsSpec Rows.unipolyLimitsRow may_enter (by rw [lifts_final]; rfl) (by rw [made_so]; rfl) rfl unipolyLimits_rest
theorem unipolyLimits_inst : Tryz.f4.isInstance Tryz.pinned.checked.prog Rows.unipolyLimitsRow.origin Rows.unipolyLimitsRow.targs := of_decide_eq_true (by kernel_rfl)
theorem unipolyLimits_wrap : Tryz.f4.isWrapper Tryz.pinned.checked.prog Rows.unipolyLimitsRow.wrapper Rows.unipolyLimitsRow.mainSum := by
  unfold Func.isWrapper; first | (rw [if_pos (by decide +kernel)]; kernel_rfl) | (rw [if_neg (by decide +kernel)]; exact ⟨rfl, rfl⟩)
theorem unipolyLimits_holds : Rows.UnipolyLimitsSaid :=
  OpenClaim.holds_of_wide 4 Tryz.f4 rfl rfl rfl rfl rfl rfl rfl ⟨rfl, rfl, rfl, rfl, rfl⟩ rfl rfl rfl rfl rfl unipolyLimits_named Tryz.func4 unipolyLimits_closed unipolyLimits_inst unipolyLimits_wrap
    (fun os started H enc _ => unipolyLimits_lifted os started H enc)
theorem unipolyLimits_wft : Rows.unipolyLimitsRow.wfByText (OpenSpec.ofChange Rows.unipolyLimitsSpec) = true := by kernel_rfl
theorem unipolyLimits_goes : false = Rows.unipolyLimitsRow.goesBy Tryz.prog := by kernel_rfl
/-- The tied card. -/
theorem unipolyLimits_card : Rows.UnipolyLimitsCardSaid :=
  Claim7.holds_tied_plain_at .later [] [.data, .data, .data] true (true, "92c791da22ca6296223053700614f65f0185ee7727ff9ea7f0cf8020e5fdb216") true
    unipolyLimits_holds (fun _ h => by cases h) unipolyLimits_wft (fun _ h => by cases h) unipolyLimits_row_tie rfl ⟨rfl, rfl⟩ main_is rfl
    (fun f fn hf hfn => by
      obtain rfl : f = 4 := Option.some.inj (unipolyLimits_named.symm.trans hf) |>.symm
      obtain rfl : fn = Tryz.f4 := (Option.some.inj (Tryz.func4.symm.trans hfn)).symm
      exact ⟨looks_so, fun j t ht => by
        rw [Tryz.params4] at ht
        have hm : t ∈ [3, 3, 3] := by simpa using Array.mem_of_getElem? ht
        have hall : ([3, 3, 3].all fun u => !Tryz.prog.wantsStandIn u) = true := by kernel_rfl
        exact (show Tryz.prog.wantsStandIn t = false by simpa using List.all_eq_true.1 hall t hm)⟩)
    unipolyLimits_goes
end Go.Proofs.YtjbnclfbkccieaaGreatDoor
