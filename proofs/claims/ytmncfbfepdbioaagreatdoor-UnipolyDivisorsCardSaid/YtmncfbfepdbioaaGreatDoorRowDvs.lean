/-
 UnipolyDivisors: the greatest common divisor of two multiples of a polynomial is monic, divides both and is divided by that polynomial. No condition.
-/
import Derived.Carry
import Derived.ChangeMaps5
import Derived.SevenTiedAt
import Derived.Test.YtmncfbfepdbioaaGreatDoorTie
import Derived.Test.YtmncfbfepdbioaaGreatDoorCards
import Derived.Test.YtmncfbfepdbioaaGreatDoorLwG
import Derived.Test.YtmncfbfepdbioaaGreatDoorUniLaid
set_option maxRecDepth 100000
namespace Go.Proofs.YtmncfbfepdbioaaGreatDoor
open Go.ChangeShapes Go.WideShapes Go.ChangeAt Go.RowKit Go.Joins
theorem unipolyDivisors_lifted (os : Os) (started : os.Started) (H : Type) (enc : TypeId × Value -> H) :
 ReturnsInHanded {} Tryz.checked os 8 .any (fun w args => (Rows.unipolyDivisorsSpec.pre enc Tryz.prog Tryz.f8 [] false w args /\ laidMetH Tryz.prog laidU w) /\ sizedMet enc Tryz.prog Tryz.f8 (OpenSpec.ofChange Rows.unipolyDivisorsSpec) false w args)
  (Rows.unipolyDivisorsSpec.post enc Tryz.prog Tryz.f8 false true false false) := by
 refine returnsInHanded_of_change_and (C := Tryz.checked) (X := fun w _ => laidMetH Tryz.prog laidU w) (fun _ _ _ hh h => h.of_heap hh) Tryz.own started (by kernel_rfl) Tryz.func8
  (ChangeSpec.witness_shaped (enc := enc) (C := Tryz.checked) (os := os) (X := fun w _ => laidMetH Tryz.prog laidU w) false (World.doorLaid Tryz.prog 400 os) #[.slice none 0 0, .slice none 0 0, .slice none 0 0] 8 rfl (World.shaped_of_RefB (by kernel_rfl) (by kernel_rfl)) (by kernel_rfl) (by kernel_rfl) (by kernel_rfl) (door_met os _)) ?_
 intro W base args ds gs before hval0 hW _ hsz0 _ _
 have hsz : (DataW.weightsEach Tryz.prog (Tryz.f8.params.toList ++ Rows.unipolyDivisorsSpec.plain.varTypes Tryz.prog) (ds ++ gs)).all (· <= reachBytes) = true := hsz0
 clear hsz0
 have hval : ∀ (j : Nat) t v, Tryz.f8.params[j]? = some t -> args[j]? = some v -> Value.okWide Tryz.prog W .any base t v := hval0
 have hW' := hW
 obtain ⟨p, q, hA0, hV, rfl, _, _⟩ := hW
 have hA : DataW.TrodAll enc Tryz.prog W 0 (fun _ => true) true Tryz.f8.params.toList args.toList ds p := hA0
 rw [Tryz.params8] at hA hval hsz
 obtain ⟨v0, v1, v2, d0, d1, d2, p0, p1, p2, rfl, rfl, rfl, h0, h1, h2⟩ := trodAll_three hA
 obtain ⟨rfl, rfl⟩ := trodVars_none hV
 have hv0 := hval 0 28 v0 rfl rfl
 have hv1 := hval 1 28 v1 rfl rfl
 have hv2 := hval 2 28 v2 rfl rfl
 clear hA0 hval0
 simp only [List.append_nil] at hW'
 have hlt0 : ∀ x ∈ p0, x.block < W.heap.size := fun x hx => hW'.lt x (by simp [hx])
 have hargs0 : ∀ (W' : World), Below W.heap.size W W' -> DataW.Trod enc Tryz.prog W' 0 (fun b => decide (b < W.heap.size)) true 28 v0 d0 p0 :=
  fun W' hn => Below.trod Tryz.laidOut (by kernel_rfl) (of_decide_eq_true (by kernel_rfl)) h0 hn hlt0
 have hlt1 : ∀ x ∈ p1, x.block < W.heap.size := fun x hx => hW'.lt x (by simp [hx])
 have hargs1 : ∀ (W' : World), Below W.heap.size W W' -> DataW.Trod enc Tryz.prog W' 0 (fun b => decide (b < W.heap.size)) true 28 v1 d1 p1 :=
  fun W' hn => Below.trod Tryz.laidOut (by kernel_rfl) (of_decide_eq_true (by kernel_rfl)) h1 hn hlt1
 have hlt2 : ∀ x ∈ p2, x.block < W.heap.size := fun x hx => hW'.lt x (by simp [hx])
 have hargs2 : ∀ (W' : World), Below W.heap.size W W' -> DataW.Trod enc Tryz.prog W' 0 (fun b => decide (b < W.heap.size)) true 28 v2 d2 p2 :=
  fun W' hn => Below.trod Tryz.laidOut (by kernel_rfl) (of_decide_eq_true (by kernel_rfl)) h2 hn hlt2
 obtain ⟨A0, n0, c0, zs0, rfl, hs0⟩ := ints_arg hv0 h0 hlt0
 obtain ⟨A1, n1, c1, zs1, rfl, hs1⟩ := ints_arg hv1 h1 hlt1
 obtain ⟨A2, n2, c2, zs2, rfl, hs2⟩ := ints_arg hv2 h2 hlt2
 refine (unipolyDivisors_any A0 n0 c0 zs0 A1 n1 c1 zs1 A2 n2 c2 zs2 W hs0 hs1 hs2).mono fun e W' ⟨he, hn⟩ => ?_
 subst he
 refine ⟨_, rfl, _, _, _, [], p0 ++ (p1 ++ p2), [], hW', ?_, ?_, rfl, hn.frame _, fun h => by cases h⟩
 . exact trodAll_mk1 (shut_bool Tryz.underlying4 _)
 . exact trodAll_mk3 (hargs0 _ hn) (hargs1 _ hn) (hargs2 _ hn)
theorem unipolyDivisors_named : Tryz.pinned.checked.prog.funcNamed Rows.unipolyDivisorsRow.func = some 8 := by kernel_rfl
theorem unipolyDivisors_rest : restFacts Tryz.prog 8 Tryz.f8 Rows.unipolyDivisorsSpec Rows.unipolyDivisorsRow = true := by kernel_rfl
theorem unipolyDivisors_closed : joinedFacts Tryz.pinned.checked.prog 8 Tryz.f8 Rows.unipolyDivisorsSpec Rows.unipolyDivisorsRow = true :=
 joined_of Tryz.prog 8 Tryz.f8 Rows.unipolyDivisorsSpec Rows.unipolyDivisorsRow may_enter (by rw [lifts_final]; rfl) (by rw [made_so]; rfl) rfl unipolyDivisors_rest
theorem unipolyDivisors_inst : Tryz.f8.isInstance Tryz.pinned.checked.prog Rows.unipolyDivisorsRow.origin Rows.unipolyDivisorsRow.targs := of_decide_eq_true (by kernel_rfl)
theorem unipolyDivisors_wrap : Tryz.f8.isWrapper Tryz.pinned.checked.prog Rows.unipolyDivisorsRow.wrapper Rows.unipolyDivisorsRow.mainSum := by
 unfold Func.isWrapper; first | (rw [if_pos (by decide +kernel)]; kernel_rfl) | (rw [if_neg (by decide +kernel)]; exact ⟨rfl, rfl⟩)
theorem unipolyDivisors_holds : Rows.UnipolyDivisorsSaid :=
 OpenClaim.holds_of_wide 8 Tryz.f8 rfl rfl rfl rfl rfl rfl rfl ⟨rfl, rfl, rfl, rfl, rfl⟩ rfl rfl rfl rfl rfl unipolyDivisors_named Tryz.func8 unipolyDivisors_closed unipolyDivisors_inst unipolyDivisors_wrap
  (fun os started H enc _ => unipolyDivisors_lifted os started H enc)
theorem unipolyDivisors_wft : Rows.unipolyDivisorsRow.wfByText (OpenSpec.ofChange Rows.unipolyDivisorsSpec) = true := by kernel_rfl
theorem unipolyDivisors_goes : false = Rows.unipolyDivisorsRow.goesBy Tryz.prog := by kernel_rfl
theorem unipolyDivisors_card : Rows.UnipolyDivisorsCardSaid :=
 Claim7.holds_tied_plain_at .later [] [.data, .data, .data] true (true, "92c791da22ca6296223053700614f65f0185ee7727ff9ea7f0cf8020e5fdb216") true
  unipolyDivisors_holds (fun _ h => by cases h) unipolyDivisors_wft (fun _ h => by cases h) unipolyDivisors_row_tie rfl ⟨rfl, rfl⟩ main_is rfl
  (fun f fn hf hfn => by
   obtain rfl : f = 8 := Option.some.inj (unipolyDivisors_named.symm.trans hf) |>.symm
   obtain rfl : fn = Tryz.f8 := (Option.some.inj (Tryz.func8.symm.trans hfn)).symm
   exact ⟨looks_so, fun j t ht => by
    rw [Tryz.params8] at ht
    have hm : t ∈ [28, 28, 28] := by simpa using Array.mem_of_getElem? ht
    have hall : ([28, 28, 28].all fun u => !Tryz.prog.wantsStandIn u) = true := by kernel_rfl
    exact (show Tryz.prog.wantsStandIn t = false by simpa using List.all_eq_true.1 hall t hm)⟩)
  unipolyDivisors_goes
end Go.Proofs.YtmncfbfepdbioaaGreatDoor
