/-
 UnipolySquarefree: the squarefree part of a product of powers of linear factors is the product of the factors, each of them once, and has no root in common with its derivative. No condition.
-/
import Derived.Carry
import Derived.ChangeMaps5
import Derived.SevenTiedAt
import Derived.Test.YtmncfbfepdbioaaGreatDoorBehindQ
import Derived.Test.YtmncfbfepdbioaaGreatDoorTie
import Derived.Test.YtmncfbfepdbioaaGreatDoorCards
import Derived.Test.YtmncfbfepdbioaaGreatDoorLwQ
import Derived.Test.YtmncfbfepdbioaaGreatDoorUniLaid
import Derived.Test.YtmncfbfepdbioaaGreatDoorUniArgB
set_option maxRecDepth 100000
namespace Go.Proofs.YtmncfbfepdbioaaGreatDoor
open Go.ChangeShapes Go.WideShapes Go.ChangeAt Go.RowKit Go.Joins
theorem unipolySquarefree_lifted (os : Os) (started : os.Started) (H : Type) (enc : TypeId × Value -> H) :
 ReturnsInHanded {} Tryz.checked os 11 .any (fun w args => (Rows.unipolySquarefreeSpec.pre enc Tryz.prog Tryz.f11 [] false w args /\ laidMetH Tryz.prog laidU w) /\ sizedMet enc Tryz.prog Tryz.f11 (OpenSpec.ofChange Rows.unipolySquarefreeSpec) false w args)
  (Rows.unipolySquarefreeSpec.post enc Tryz.prog Tryz.f11 false true false false) := by
 refine returnsInHanded_of_change_and (C := Tryz.checked) (X := fun w _ => laidMetH Tryz.prog laidU w) (fun _ _ _ hh h => h.of_heap hh) Tryz.own started (by kernel_rfl) Tryz.func11
  (ChangeSpec.witness_shaped (enc := enc) (C := Tryz.checked) (os := os) (X := fun w _ => laidMetH Tryz.prog laidU w) false (World.doorLaid Tryz.prog 400 os) #[.slice none 0 0, .slice none 0 0, .int .i64 0] 8 rfl (World.shaped_of_RefB (by kernel_rfl) (by kernel_rfl)) (by kernel_rfl) (by kernel_rfl) (by kernel_rfl) (door_met os _)) ?_
 intro W base args ds gs before hval0 hW _ hsz0 _ _
 have hsz : (DataW.weightsEach Tryz.prog (Tryz.f11.params.toList ++ Rows.unipolySquarefreeSpec.plain.varTypes Tryz.prog) (ds ++ gs)).all (· <= reachBytes) = true := hsz0
 clear hsz0
 have hval : ∀ (j : Nat) t v, Tryz.f11.params[j]? = some t -> args[j]? = some v -> Value.okWide Tryz.prog W .any base t v := hval0
 have hW' := hW
 obtain ⟨p, q, hA0, hV, rfl, _, _⟩ := hW
 have hA : DataW.TrodAll enc Tryz.prog W 0 (fun _ => true) true Tryz.f11.params.toList args.toList ds p := hA0
 rw [Tryz.params11] at hA hval hsz
 obtain ⟨v0, v1, v2, d0, d1, d2, p0, p1, p2, rfl, rfl, rfl, h0, h1, h2⟩ := trodAll_three hA
 obtain ⟨rfl, rfl⟩ := trodVars_none hV
 have hv0 := hval 0 28 v0 rfl rfl
 have hv1 := hval 1 59 v1 rfl rfl
 obtain ⟨z2, rfl, rfl, rfl, wz2⟩ := open_int Tryz.underlying3 (hval 2 3 v2 rfl rfl) h2
 clear hA0 hval0
 simp only [List.append_nil] at hW'
 have hlt0 : ∀ x ∈ p0, x.block < W.heap.size := fun x hx => hW'.lt x (by simp [hx])
 have hargs0 : ∀ (W' : World), Below W.heap.size W W' -> DataW.Trod enc Tryz.prog W' 0 (fun b => decide (b < W.heap.size)) true 28 v0 d0 p0 :=
  fun W' hn => Below.trod Tryz.laidOut (by kernel_rfl) (of_decide_eq_true (by kernel_rfl)) h0 hn hlt0
 have hlt1 : ∀ x ∈ p1, x.block < W.heap.size := fun x hx => hW'.lt x (by simp [hx])
 have hargs1 : ∀ (W' : World), Below W.heap.size W W' -> DataW.Trod enc Tryz.prog W' 0 (fun b => decide (b < W.heap.size)) true 59 v1 d1 p1 :=
  fun W' hn => Below.trod Tryz.laidOut (by kernel_rfl) (of_decide_eq_true (by kernel_rfl)) h1 hn hlt1
 obtain ⟨A0, n0, c0, zs0, rfl, hs0⟩ := ints_arg hv0 h0 hlt0
 obtain ⟨A1, n1, c1, zs1, rfl, hs1⟩ := bytes_arg hv1 h1 hlt1
 refine (unipolySquarefree_any A0 n0 c0 zs0 A1 n1 c1 zs1 z2 W hs0 hs1 (i64_bounds wz2).1 (i64_bounds wz2).2).mono fun e W' ⟨he, hn⟩ => ?_
 subst he
 refine ⟨_, rfl, _, _, _, [], p0 ++ (p1 ++ []), [], hW', ?_, ?_, rfl, hn.frame _, fun h => by cases h⟩
 . exact trodAll_mk1 (shut_bool Tryz.underlying4 _)
 . exact trodAll_mk3 (hargs0 _ hn) (hargs1 _ hn) (shut_int Tryz.underlying3 wz2)
theorem unipolySquarefree_named : Tryz.pinned.checked.prog.funcNamed Rows.unipolySquarefreeRow.func = some 11 := by kernel_rfl
theorem unipolySquarefree_rest : restFacts Tryz.prog 11 Tryz.f11 Rows.unipolySquarefreeSpec Rows.unipolySquarefreeRow = true := by kernel_rfl
theorem unipolySquarefree_closed : joinedFacts Tryz.pinned.checked.prog 11 Tryz.f11 Rows.unipolySquarefreeSpec Rows.unipolySquarefreeRow = true :=
 joined_of Tryz.prog 11 Tryz.f11 Rows.unipolySquarefreeSpec Rows.unipolySquarefreeRow may_enter (by rw [lifts_final]; rfl) (by rw [made_so]; rfl) rfl unipolySquarefree_rest
theorem unipolySquarefree_inst : Tryz.f11.isInstance Tryz.pinned.checked.prog Rows.unipolySquarefreeRow.origin Rows.unipolySquarefreeRow.targs := of_decide_eq_true (by kernel_rfl)
theorem unipolySquarefree_wrap : Tryz.f11.isWrapper Tryz.pinned.checked.prog Rows.unipolySquarefreeRow.wrapper Rows.unipolySquarefreeRow.mainSum := by
 unfold Func.isWrapper; first | (rw [if_pos (by decide +kernel)]; kernel_rfl) | (rw [if_neg (by decide +kernel)]; exact ⟨rfl, rfl⟩)
theorem unipolySquarefree_holds : Rows.UnipolySquarefreeSaid :=
 OpenClaim.holds_of_wide 11 Tryz.f11 rfl rfl rfl rfl rfl rfl rfl ⟨rfl, rfl, rfl, rfl, rfl⟩ rfl rfl rfl rfl rfl unipolySquarefree_named Tryz.func11 unipolySquarefree_closed unipolySquarefree_inst unipolySquarefree_wrap
  (fun os started H enc _ => unipolySquarefree_lifted os started H enc)
theorem unipolySquarefree_wft : Rows.unipolySquarefreeRow.wfByText (OpenSpec.ofChange Rows.unipolySquarefreeSpec) = true := by kernel_rfl
theorem unipolySquarefree_goes : false = Rows.unipolySquarefreeRow.goesBy Tryz.prog := by kernel_rfl
theorem unipolySquarefree_card : Rows.UnipolySquarefreeCardSaid :=
 Claim7.holds_tied_plain_at .later [] [.data, .data, .data] true (true, "92c791da22ca6296223053700614f65f0185ee7727ff9ea7f0cf8020e5fdb216") true
  unipolySquarefree_holds (fun _ h => by cases h) unipolySquarefree_wft (fun _ h => by cases h) unipolySquarefree_row_tie rfl ⟨rfl, rfl⟩ main_is rfl
  (fun f fn hf hfn => by
   obtain rfl : f = 11 := Option.some.inj (unipolySquarefree_named.symm.trans hf) |>.symm
   obtain rfl : fn = Tryz.f11 := (Option.some.inj (Tryz.func11.symm.trans hfn)).symm
   exact ⟨looks_so, fun j t ht => by
    rw [Tryz.params11] at ht
    have hm : t ∈ [28, 59, 3] := by simpa using Array.mem_of_getElem? ht
    have hall : ([28, 59, 3].all fun u => !Tryz.prog.wantsStandIn u) = true := by kernel_rfl
    exact (show Tryz.prog.wantsStandIn t = false by simpa using List.all_eq_true.1 hall t hm)⟩)
  unipolySquarefree_goes
end Go.Proofs.YtmncfbfepdbioaaGreatDoor
