/-
 UnipolyOverIntegers: a polynomial with integer coefficients has at an integer the value that Horner's rule yields with the integers of layer 1. No condition.
-/
import Derived.Carry
import Derived.ChangeMaps5
import Derived.SevenTiedAt
import Derived.Test.YtmncfbfepdbioaaGreatDoorTie
import Derived.Test.YtmncfbfepdbioaaGreatDoorCards
import Derived.Test.YtmncfbfepdbioaaGreatDoorLwI
import Derived.Test.YtmncfbfepdbioaaGreatDoorUniLaid
set_option maxRecDepth 100000
namespace Go.Proofs.YtmncfbfepdbioaaGreatDoor
open Go.ChangeShapes Go.WideShapes Go.ChangeAt Go.RowKit Go.Joins
theorem unipolyOverIntegers_lifted (os : Os) (started : os.Started) (H : Type) (enc : TypeId × Value -> H) :
 ReturnsInHanded {} Tryz.checked os 13 .any (fun w args => (Rows.unipolyOverIntegersSpec.pre enc Tryz.prog Tryz.f13 [] false w args /\ laidMetH Tryz.prog laidU w) /\ sizedMet enc Tryz.prog Tryz.f13 (OpenSpec.ofChange Rows.unipolyOverIntegersSpec) false w args)
  (Rows.unipolyOverIntegersSpec.post enc Tryz.prog Tryz.f13 false true false false) := by
 refine returnsInHanded_of_change_and (C := Tryz.checked) (X := fun w _ => laidMetH Tryz.prog laidU w) (fun _ _ _ hh h => h.of_heap hh) Tryz.own started (by kernel_rfl) Tryz.func13
  (ChangeSpec.witness_shaped (enc := enc) (C := Tryz.checked) (os := os) (X := fun w _ => laidMetH Tryz.prog laidU w) false (World.doorLaid Tryz.prog 400 os) #[.slice none 0 0, .int .i64 0] 8 rfl (World.shaped_of_RefB (by kernel_rfl) (by kernel_rfl)) (by kernel_rfl) (by kernel_rfl) (by kernel_rfl) (door_met os _)) ?_
 intro W base args ds gs before hval0 hW _ hsz0 _ _
 have hsz : (DataW.weightsEach Tryz.prog (Tryz.f13.params.toList ++ Rows.unipolyOverIntegersSpec.plain.varTypes Tryz.prog) (ds ++ gs)).all (· <= reachBytes) = true := hsz0
 clear hsz0
 have hval : ∀ (j : Nat) t v, Tryz.f13.params[j]? = some t -> args[j]? = some v -> Value.okWide Tryz.prog W .any base t v := hval0
 have hW' := hW
 obtain ⟨p, q, hA0, hV, rfl, _, _⟩ := hW
 have hA : DataW.TrodAll enc Tryz.prog W 0 (fun _ => true) true Tryz.f13.params.toList args.toList ds p := hA0
 rw [Tryz.params13] at hA hval hsz
 obtain ⟨v0, v1, d0, d1, p0, p1, rfl, rfl, rfl, h0, h1⟩ := trodAll_two hA
 obtain ⟨rfl, rfl⟩ := trodVars_none hV
 have hv0 := hval 0 28 v0 rfl rfl
 obtain ⟨z1, rfl, rfl, rfl, wz1⟩ := open_int Tryz.underlying3 (hval 1 3 v1 rfl rfl) h1
 clear hA0 hval0
 simp only [List.append_nil] at hW'
 have hlt0 : ∀ x ∈ p0, x.block < W.heap.size := fun x hx => hW'.lt x (by simp [hx])
 have hargs0 : ∀ (W' : World), Below W.heap.size W W' -> DataW.Trod enc Tryz.prog W' 0 (fun b => decide (b < W.heap.size)) true 28 v0 d0 p0 :=
  fun W' hn => Below.trod Tryz.laidOut (by kernel_rfl) (of_decide_eq_true (by kernel_rfl)) h0 hn hlt0
 obtain ⟨A0, n0, c0, zs0, rfl, hs0⟩ := ints_arg hv0 h0 hlt0
 refine (unipolyOverIntegers_any A0 n0 c0 zs0 z1 W hs0 (i64_bounds wz1).1 (i64_bounds wz1).2).mono fun e W' ⟨he, hn⟩ => ?_
 subst he
 refine ⟨_, rfl, _, _, _, [], p0 ++ [], [], hW', ?_, ?_, rfl, hn.frame _, fun h => by cases h⟩
 . exact trodAll_mk1 (shut_bool Tryz.underlying4 _)
 . exact trodAll_mk2 (hargs0 _ hn) (shut_int Tryz.underlying3 wz1)
theorem unipolyOverIntegers_named : Tryz.pinned.checked.prog.funcNamed Rows.unipolyOverIntegersRow.func = some 13 := by kernel_rfl
theorem unipolyOverIntegers_rest : restFacts Tryz.prog 13 Tryz.f13 Rows.unipolyOverIntegersSpec Rows.unipolyOverIntegersRow = true := by kernel_rfl
theorem unipolyOverIntegers_closed : joinedFacts Tryz.pinned.checked.prog 13 Tryz.f13 Rows.unipolyOverIntegersSpec Rows.unipolyOverIntegersRow = true :=
 joined_of Tryz.prog 13 Tryz.f13 Rows.unipolyOverIntegersSpec Rows.unipolyOverIntegersRow may_enter (by rw [lifts_final]; rfl) (by rw [made_so]; rfl) rfl unipolyOverIntegers_rest
theorem unipolyOverIntegers_inst : Tryz.f13.isInstance Tryz.pinned.checked.prog Rows.unipolyOverIntegersRow.origin Rows.unipolyOverIntegersRow.targs := of_decide_eq_true (by kernel_rfl)
theorem unipolyOverIntegers_wrap : Tryz.f13.isWrapper Tryz.pinned.checked.prog Rows.unipolyOverIntegersRow.wrapper Rows.unipolyOverIntegersRow.mainSum := by
 unfold Func.isWrapper; first | (rw [if_pos (by decide +kernel)]; kernel_rfl) | (rw [if_neg (by decide +kernel)]; exact ⟨rfl, rfl⟩)
theorem unipolyOverIntegers_holds : Rows.UnipolyOverIntegersSaid :=
 OpenClaim.holds_of_wide 13 Tryz.f13 rfl rfl rfl rfl rfl rfl rfl ⟨rfl, rfl, rfl, rfl, rfl⟩ rfl rfl rfl rfl rfl unipolyOverIntegers_named Tryz.func13 unipolyOverIntegers_closed unipolyOverIntegers_inst unipolyOverIntegers_wrap
  (fun os started H enc _ => unipolyOverIntegers_lifted os started H enc)
theorem unipolyOverIntegers_wft : Rows.unipolyOverIntegersRow.wfByText (OpenSpec.ofChange Rows.unipolyOverIntegersSpec) = true := by kernel_rfl
theorem unipolyOverIntegers_goes : false = Rows.unipolyOverIntegersRow.goesBy Tryz.prog := by kernel_rfl
theorem unipolyOverIntegers_card : Rows.UnipolyOverIntegersCardSaid :=
 Claim7.holds_tied_plain_at .later [] [.data, .data, .data] true (true, "92c791da22ca6296223053700614f65f0185ee7727ff9ea7f0cf8020e5fdb216") true
  unipolyOverIntegers_holds (fun _ h => by cases h) unipolyOverIntegers_wft (fun _ h => by cases h) unipolyOverIntegers_row_tie rfl ⟨rfl, rfl⟩ main_is rfl
  (fun f fn hf hfn => by
   obtain rfl : f = 13 := Option.some.inj (unipolyOverIntegers_named.symm.trans hf) |>.symm
   obtain rfl : fn = Tryz.f13 := (Option.some.inj (Tryz.func13.symm.trans hfn)).symm
   exact ⟨looks_so, fun j t ht => by
    rw [Tryz.params13] at ht
    have hm : t ∈ [28, 3] := by simpa using Array.mem_of_getElem? ht
    have hall : ([28, 3].all fun u => !Tryz.prog.wantsStandIn u) = true := by kernel_rfl
    exact (show Tryz.prog.wantsStandIn t = false by simpa using List.all_eq_true.1 hall t hm)⟩)
  unipolyOverIntegers_goes
end Go.Proofs.YtmncfbfepdbioaaGreatDoor
