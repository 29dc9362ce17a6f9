/-
 Stage 3: an argument that is a list of integers, as the row reads it.
-/
import Derived.Test.YtmncfbfepdbioaaGreatDoorRatFacts
import Derived.Test.YtmncfbfepdbioaaGreatDoorUniMf
set_option maxRecDepth 20000
namespace Go.Proofs.YtmncfbfepdbioaaGreatDoor
open Go.ChangeShapes Go.WideShapes Go.ChangeAt Go.RowKit Go.Joins
theorem Tryz.cells_int : Tryz.prog.cellsOf 3 = 1 := by kernel_rfl
section
variable {H : Type} {enc : TypeId × Value -> H} {W : World}
theorem ints_arg {base : Nat} {v : Value} {d : DataW H} {p : List MemPlace}
 (hval : Value.okWide Tryz.prog W .any base 28 v) (h : DataW.Trod enc Tryz.prog W 0 (fun _ => true) true 28 v d p) (hlt : ∀ x ∈ p, x.block < W.heap.size) :
 ∃ A n c zs, v = .slice A n c /\ ISl W A n c zs := by
 obtain ⟨a0, len0, cap0, rfl⟩ := okWide_slice Tryz.underlying28 hval
 obtain ⟨fuel, hf⟩ := h
 rcases open_ints Tryz.underlying28 Tryz.underlying3 Tryz.cells_int hf with ⟨hcs, hx⟩ | ⟨a, len, cap, zs, hcs, _, hl, hm, hz, hx, hcell, hwz⟩
 . simp [Value.cells] at hcs
   obtain ⟨rfl, rfl, rfl⟩ := hcs
   exact ⟨none, 0, 0, [], rfl, rfl, Nat.le_refl _, by decide, fun k hk => absurd hk (Nat.not_lt_zero k), fun z hz => by cases hz⟩
 . simp [Value.cells] at hcs
   obtain ⟨rfl, rfl, rfl⟩ := hcs
   simp only [if_true] at hz
   unfold maxLen at hm
   refine ⟨some a, len0, cap0, zs.take len0, rfl, ?_, hl, by omega, fun k hk => ⟨a, rfl, ?_, ?_⟩, fun z hz' => i64_bounds (hwz z (List.mem_of_mem_take hz'))⟩
   . rw [List.length_take]; omega
   . injection hx with hx1 hx2
     have hin : MemPlace.cell a.block a.off ∈ p := by
      rw [hx2]
      exact MemPlace.mem_row.2 ⟨0, by omega, by simp⟩
     exact hlt _ hin
   . rw [hcell k (by omega), List.getD_eq_getElem?_getD, List.getD_eq_getElem?_getD, List.getElem?_take, if_pos hk]
end
end Go.Proofs.YtmncfbfepdbioaaGreatDoor
