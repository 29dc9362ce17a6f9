/-
  An argument of the program's integer type, as the row reads it.
-/
import Derived.Test.YtlibjampolcbhaaGreatRatArg
namespace Go.Proofs.YtlibjampolcbhaaGreat
open Go.ChangeShapes Go.WideShapes Go.ChangeAt Go.RowKit Go.Joins

section
variable {H : Type} {enc : TypeId × Value → H} {W : World}
set_option maxRecDepth 20000 in
set_option maxRecDepth 20000 in
/-- An integer that came in: a sign and limbs. -/
theorem int_arg {base : Nat} {v : Value} {d : DataW H} {p : List MemPlace} {ts : List TypeId} {ds : List (DataW H)} {j : Nat} (hsz : (DataW.weightsEach Tryz.prog ts ds).all (· ≤ reachBytes) = true) (hts : ts[j]? = some 24) (hds : ds[j]? = some d)
    (hval : Value.okWide Tryz.prog W .any base 24 v) (h : DataW.Trod enc Tryz.prog W 0 (fun _ => true) true 24 v d p) (hlt : ∀ x ∈ p, x.block < W.heap.size) :
    ∃ neg A n c xs, v = .agg #[.bool neg, .slice A n c] ∧ Sl W W.heap.size A n c xs := by
  obtain ⟨v0, v1, y0, y1, fuel, rfl, rfl, rfl, h0, h1⟩ := open_agg2 Tryz.underlying24 (by kernel_rfl) Tryz.cells_Int hval h
  obtain ⟨b, hb, _⟩ := DataW.trod_bool Tryz.underlying4 h0
  injection hb with hb
  subst hb
  rcases open_ints Tryz.underlying22 Tryz.underlying73 Tryz.cells_u32 h1 with ⟨hcs, hx⟩ | ⟨a, len, cap, zs, hcs, _, hl, hm, hz, hx, hcell, hwz⟩
  · injection hcs with hcs
    subst hcs
    exact ⟨b, none, 0, 0, [], rfl, Sl.nil _ _⟩
  · injection hcs with hcs
    subst hcs
    simp only [if_true] at hz
    have hreach : cap * 4 ≤ 140737488351232 := by
      have := List.all_eq_true.1 hsz _ (DataW.weights_mem_each (j := j) (t := 24) hts hds (((lits (H := H) .u32 (zs.take len)).length + (lits (H := H) .u32 (zs.drop len)).length) * Tryz.prog.bytesOf 73)
        (by rw [hx]; simp [DataW.weights, DataW.weightsEach, Tryz.underlying24, Tryz.underlying22]))
      rw [Tryz.bytes_u32] at this
      simp only [lits, List.length_map, List.length_take, List.length_drop, reachBytes, decide_eq_true_eq] at this
      omega
    unfold maxLen at hm
    refine ⟨b, some a, len, cap, (zs.take len).map Int.toNat, rfl, hl, by omega, by omega, (fun e => by cases e), ⟨by simp [us]; omega, fun hp => ⟨a, rfl, ?_, fun k u hu => ?_⟩⟩, ?_⟩
    · have hin : MemPlace.cell a.block a.off ∈ y0.2 ++ y1.2 := by
        rw [hx]
        exact List.mem_append_right _ (MemPlace.mem_row.2 ⟨0, by omega, by simp⟩)
      exact hlt _ hin
    · have hk : k < len := by
        rcases Nat.lt_or_ge k len with hk | hk
        · exact hk
        · rw [List.getElem?_eq_none (by simp [us]; omega)] at hu; cases hu
      have hkz : k < zs.length := by omega
      have e1 : u = .int .u32 (zs[k].toNat : Nat) := by
        simp only [us, List.map_map, List.getElem?_map, List.getElem?_take, if_pos hk, List.getElem?_eq_getElem hkz, Option.map_some, Function.comp_apply, Option.some.injEq] at hu
        exact hu.symm
      rw [hcell k hkz, e1, (toNat_u32 (hwz _ (List.getElem_mem hkz))).1, List.getD_eq_getElem?_getD, List.getElem?_eq_getElem hkz]
      rfl
    · intro x hx'
      simp only [List.mem_map] at hx'
      obtain ⟨z, hz', rfl⟩ := hx'
      exact (toNat_u32 (hwz z (List.mem_of_mem_take hz'))).2
end
end Go.Proofs.YtlibjampolcbhaaGreat
