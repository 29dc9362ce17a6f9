/-
 UnipolyResultants: the resultant of two products of linear factors is the product of all differences of their roots; it is multiplicative; it is 0 exactly if the greatest common divisor has a positive degree. No condition.
-/
import Derived.Carry
import Derived.ChangeMaps5
import Derived.SevenTiedAt
import Derived.Test.YtmncfbfepdbioaaGreatDoorTie
import Derived.Test.YtmncfbfepdbioaaGreatDoorCards
import Derived.Test.YtmncfbfepdbioaaGreatDoorLwS
import Derived.Test.YtmncfbfepdbioaaGreatDoorUniLaid
import Derived.Test.YtmncfbfepdbioaaGreatDoorUniFive
set_option maxRecDepth 100000
namespace Go.Proofs.YtmncfbfepdbioaaGreatDoor
open Go.ChangeShapes Go.WideShapes Go.ChangeAt Go.RowKit Go.Joins
theorem unipolyResultants_lifted (os : Os) (started : os.Started) (H : Type) (enc : TypeId × Value -> H) :
 ReturnsInHanded {} Tryz.checked os 12 .any (fun w args => (Rows.unipolyResultantsSpec.pre enc Tryz.prog Tryz.f12 [] false w args /\ laidMetH Tryz.prog laidU w) /\ sizedMet enc Tryz.prog Tryz.f12 (OpenSpec.ofChange Rows.unipolyResultantsSpec) false w args)
  (Rows.unipolyResultantsSpec.post enc Tryz.prog Tryz.f12 false true false false) := by
 refine returnsInHanded_of_change_and (C := Tryz.checked) (X := fun w _ => laidMetH Tryz.prog laidU w) (fun _ _ _ hh h => h.of_heap hh) Tryz.own started (by kernel_rfl) Tryz.func12
  (ChangeSpec.witness_shaped (enc := enc) (C := Tryz.checked) (os := os) (X := fun w _ => laidMetH Tryz.prog laidU w) false (World.doorLaid Tryz.prog 400 os) #[.slice none 0 0, .slice none 0 0, .slice none 0 0, .slice none 0 0, .slice none 0 0] 8 rfl (World.shaped_of_RefB (by kernel_rfl) (by kernel_rfl)) (by kernel_rfl) (by kernel_rfl) (by kernel_rfl) (door_met os _)) ?_
 intro W base args ds gs before hval0 hW _ hsz0 _ _
 have hsz : (DataW.weightsEach Tryz.prog (Tryz.f12.params.toList ++ Rows.unipolyResultantsSpec.plain.varTypes Tryz.prog) (ds ++ gs)).all (· <= reachBytes) = true := hsz0
 clear hsz0
 have hval : ∀ (j : Nat) t v, Tryz.f12.params[j]? = some t -> args[j]? = some v -> Value.okWide Tryz.prog W .any base t v := hval0
 have hW' := hW
 obtain ⟨p, q, hA0, hV, rfl, _, _⟩ := hW
 have hA : DataW.TrodAll enc Tryz.prog W 0 (fun _ => true) true Tryz.f12.params.toList args.toList ds p := hA0
 rw [Tryz.params12] at hA hval hsz
 obtain ⟨v0, v1, v2, v3, v4, d0, d1, d2, d3, d4, p0, p1, p2, p3, p4, rfl, rfl, rfl, h0, h1, h2, h3, h4⟩ := trodAll_five hA
 obtain ⟨rfl, rfl⟩ := trodVars_none hV
 have hv0 := hval 0 28 v0 rfl rfl
 have hv1 := hval 1 28 v1 rfl rfl
 have hv2 := hval 2 28 v2 rfl rfl
 have hv3 := hval 3 28 v3 rfl rfl
 have hv4 := hval 4 28 v4 rfl rfl
 clear hA0 hval0
 simp only [List.append_nil] at hW'
 have hlt0 : ∀ x ∈ p0, x.block < W.heap.size := fun x hx => hW'.lt x (by simp [hx])
 have hargs0 : ∀ (W' : World), Below W.heap.size W W' -> DataW.Trod enc Tryz.prog W' 0 (fun b => decide (b < W.heap.size)) true 28 v0 d0 p0 :=
  fun W' hn => Below.trod Tryz.laidOut (by kernel_rfl) (of_decide_eq_true (by kernel_rfl)) h0 hn hlt0
 have hlt1 : ∀ x ∈ p1, x.block < W.heap.size := fun x hx => hW'.lt x (by simp [hx])
 have hargs1 : ∀ (W' : World), Below W.heap.size W W' -> DataW.Trod enc Tryz.prog W' 0 (fun b => decide (b < W.heap.size)) true 28 v1 d1 p1 :=
  fun W' hn => Below.trod Tryz.laidOut (by kernel_rfl) (of_decide_eq_true (by kernel_rfl)) h1 hn hlt1
 have hlt2 : ∀ x ∈ p2, x.block < W.heap.size := fun x hx => hW'.lt x (by simp [hx])
 have hargs2 : ∀ (W' : World), Below W.heap.size W W' -> DataW.Trod enc Tryz.prog W' 0 (fun b => decide (b < W.heap.size)) true 28 v2 d2 p2 :=
  fun W' hn => Below.trod Tryz.laidOut (by kernel_rfl) (of_decide_eq_true (by kernel_rfl)) h2 hn hlt2
 have hlt3 : ∀ x ∈ p3, x.block < W.heap.size := fun x hx => hW'.lt x (by simp [hx])
 have hargs3 : ∀ (W' : World), Below W.heap.size W W' -> DataW.Trod enc Tryz.prog W' 0 (fun b => decide (b < W.heap.size)) true 28 v3 d3 p3 :=
  fun W' hn => Below.trod Tryz.laidOut (by kernel_rfl) (of_decide_eq_true (by kernel_rfl)) h3 hn hlt3
 have hlt4 : ∀ x ∈ p4, x.block < W.heap.size := fun x hx => hW'.lt x (by simp [hx])
 have hargs4 : ∀ (W' : World), Below W.heap.size W W' -> DataW.Trod enc Tryz.prog W' 0 (fun b => decide (b < W.heap.size)) true 28 v4 d4 p4 :=
  fun W' hn => Below.trod Tryz.laidOut (by kernel_rfl) (of_decide_eq_true (by kernel_rfl)) h4 hn hlt4
 obtain ⟨A0, n0, c0, zs0, rfl, hs0⟩ := ints_arg hv0 h0 hlt0
 obtain ⟨A1, n1, c1, zs1, rfl, hs1⟩ := ints_arg hv1 h1 hlt1
 obtain ⟨A2, n2, c2, zs2, rfl, hs2⟩ := ints_arg hv2 h2 hlt2
 obtain ⟨A3, n3, c3, zs3, rfl, hs3⟩ := ints_arg hv3 h3 hlt3
 obtain ⟨A4, n4, c4, zs4, rfl, hs4⟩ := ints_arg hv4 h4 hlt4
 refine (unipolyResultants_any A0 n0 c0 zs0 A1 n1 c1 zs1 A2 n2 c2 zs2 A3 n3 c3 zs3 A4 n4 c4 zs4 W hs0 hs1 hs2 hs3 hs4).mono fun e W' ⟨he, hn⟩ => ?_
 subst he
 refine ⟨_, rfl, _, _, _, [], p0 ++ (p1 ++ (p2 ++ (p3 ++ p4))), [], hW', ?_, ?_, rfl, hn.frame _, fun h => by cases h⟩
 . exact trodAll_mk1 (shut_bool Tryz.underlying4 _)
 . exact trodAll_mk5 (hargs0 _ hn) (hargs1 _ hn) (hargs2 _ hn) (hargs3 _ hn) (hargs4 _ hn)
theorem unipolyResultants_named : Tryz.pinned.checked.prog.funcNamed Rows.unipolyResultantsRow.func = some 12 := by kernel_rfl
theorem unipolyResultants_rest : restFacts Tryz.prog 12 Tryz.f12 Rows.unipolyResultantsSpec Rows.unipolyResultantsRow = true := by kernel_rfl
theorem unipolyResultants_closed : joinedFacts Tryz.pinned.checked.prog 12 Tryz.f12 Rows.unipolyResultantsSpec Rows.unipolyResultantsRow = true :=
 joined_of Tryz.prog 12 Tryz.f12 Rows.unipolyResultantsSpec Rows.unipolyResultantsRow may_enter (by rw [lifts_final]; rfl) (by rw [made_so]; rfl) rfl unipolyResultants_rest
theorem unipolyResultants_inst : Tryz.f12.isInstance Tryz.pinned.checked.prog Rows.unipolyResultantsRow.origin Rows.unipolyResultantsRow.targs := of_decide_eq_true (by kernel_rfl)
theorem unipolyResultants_wrap : Tryz.f12.isWrapper Tryz.pinned.checked.prog Rows.unipolyResultantsRow.wrapper Rows.unipolyResultantsRow.mainSum := by
 unfold Func.isWrapper; first | (rw [if_pos (by decide +kernel)]; kernel_rfl) | (rw [if_neg (by decide +kernel)]; exact ⟨rfl, rfl⟩)
theorem unipolyResultants_holds : Rows.UnipolyResultantsSaid :=
 OpenClaim.holds_of_wide 12 Tryz.f12 rfl rfl rfl rfl rfl rfl rfl ⟨rfl, rfl, rfl, rfl, rfl⟩ rfl rfl rfl rfl rfl unipolyResultants_named Tryz.func12 unipolyResultants_closed unipolyResultants_inst unipolyResultants_wrap
  (fun os started H enc _ => unipolyResultants_lifted os started H enc)
theorem unipolyResultants_wft : Rows.unipolyResultantsRow.wfByText (OpenSpec.ofChange Rows.unipolyResultantsSpec) = true := by kernel_rfl
theorem unipolyResultants_goes : false = Rows.unipolyResultantsRow.goesBy Tryz.prog := by kernel_rfl
theorem unipolyResultants_card : Rows.UnipolyResultantsCardSaid :=
 Claim7.holds_tied_plain_at .later [] [.data, .data, .data] true (true, "92c791da22ca6296223053700614f65f0185ee7727ff9ea7f0cf8020e5fdb216") true
  unipolyResultants_holds (fun _ h => by cases h) unipolyResultants_wft (fun _ h => by cases h) unipolyResultants_row_tie rfl ⟨rfl, rfl⟩ main_is rfl
  (fun f fn hf hfn => by
   obtain rfl : f = 12 := Option.some.inj (unipolyResultants_named.symm.trans hf) |>.symm
   obtain rfl : fn = Tryz.f12 := (Option.some.inj (Tryz.func12.symm.trans hfn)).symm
   exact ⟨looks_so, fun j t ht => by
    rw [Tryz.params12] at ht
    have hm : t ∈ [28, 28, 28, 28, 28] := by simpa using Array.mem_of_getElem? ht
    have hall : ([28, 28, 28, 28, 28].all fun u => !Tryz.prog.wantsStandIn u) = true := by kernel_rfl
    exact (show Tryz.prog.wantsStandIn t = false by simpa using List.all_eq_true.1 hall t hm)⟩)
  unipolyResultants_goes
end Go.Proofs.YtmncfbfepdbioaaGreatDoor
