/-
  An argument of the program's rational type, as the row reads it.
-/
import Derived.ProofKit
import Derived.SizedLaws
import Derived.Lib.SmallJoins
import Derived.Test.YtfodjaeknhomkaaRows
import Derived.Test.YtfodjaeknhomkaaRatV
namespace Go.Proofs.Ytfodjaeknhomkaa
open Go.ChangeShapes Go.WideShapes Go.ChangeAt Go.RowKit Go.Joins
theorem Try.own : ownKnob Try.prog.godebug = none := by kernel_rfl
theorem Try.laidOut : laidOutB Try.prog = true := by kernel_rfl
theorem Try.cells_u32 : Try.prog.cellsOf 69 = 1 := by kernel_rfl
theorem Try.bytes_u32 : Try.prog.bytesOf 69 = 4 := by kernel_rfl
theorem Try.cells_Int : Try.prog.cellsOf 26 = 2 := by kernel_rfl
theorem Try.cells_Rat : Try.prog.cellsOf 28 = 4 := by kernel_rfl
theorem Try.cells_bool : Try.prog.cellsOf 4 = 1 := by kernel_rfl
theorem Try.cells_slice : Try.prog.cellsOf 24 = 1 := by kernel_rfl
section
variable {H : Type} {enc : TypeId × Value → H} {W : World}
theorem toNat_u32 {z : Int} (h : (Lit.int .u32 z).wf = true) : ((z.toNat : Nat) : Int) = z ∧ z.toNat < 4294967296 := by
  have h1 : IntKind.u32.min = 0 := rfl
  have h2 : IntKind.u32.max = 4294967295 := rfl
  simp only [Lit.wf, Bool.and_eq_true, decide_eq_true_eq] at h
  omega
theorem i64_bounds {z : Int} (h : (Lit.int .i64 z).wf = true) : -9223372036854775808 ≤ z ∧ z ≤ 9223372036854775807 := by
  have h1 : IntKind.i64.min = -9223372036854775808 := rfl
  have h2 : IntKind.i64.max = 9223372036854775807 := rfl
  simp only [Lit.wf, Bool.and_eq_true, decide_eq_true_eq] at h
  omega
set_option maxRecDepth 20000 in
/-- An integer within what came in: a sign and limbs. -/
theorem int_part {m0 : Nat} {v0 v1 : Value} {y : DataW H × List MemPlace} (hT : DataW.trod enc Try.prog W 0 (fun _ => true) true m0 26 [v0, v1] = some y) (hw : ∀ m ∈ DataW.weights Try.prog 26 y.1, m ≤ reachBytes) (hlt : ∀ x ∈ y.2, x.block < W.heap.size) :
    ∃ neg A n c xs, v0 = .bool neg ∧ v1 = .slice A n c ∧ Sl W W.heap.size A n c xs := by
  obtain ⟨y0, y1, n, rfl, _, h0', h1'⟩ := trod_struct2 Try.underlying26 hT
  have h0 : DataW.trod enc Try.prog W 0 (fun _ => true) true n 4 [v0] = some y0 := by simpa [Try.cells_bool] using h0'
  have h1 : DataW.trod enc Try.prog W 0 (fun _ => true) true n 24 [v1] = some y1 := by simpa [Try.cells_slice] using h1'
  obtain ⟨b, hb, _⟩ := DataW.trod_bool Try.underlying4 h0
  injection hb with hb
  subst hb
  rcases open_ints Try.underlying24 Try.underlying69 Try.cells_u32 h1 with ⟨hcs, hx⟩ | ⟨a, len, cap, zs, hcs, _, hl, hm, hz, hx, hcell, hwz⟩
  · injection hcs with hcs
    subst hcs
    exact ⟨b, none, 0, 0, [], rfl, rfl, Sl.nil _ _⟩
  · injection hcs with hcs
    subst hcs
    simp only [if_true] at hz
    have hreach : cap * 4 ≤ 140737488351232 := by
      have := hw (((lits (H := H) .u32 (zs.take len)).length + (lits (H := H) .u32 (zs.drop len)).length) * Try.prog.bytesOf 69) (by rw [hx]; simp [DataW.weights, DataW.weightsEach, Try.underlying26, Try.underlying24])
      rw [Try.bytes_u32] at this
      simp only [lits, List.length_map, List.length_take, List.length_drop, reachBytes] at this
      omega
    unfold maxLen at hm
    refine ⟨b, some a, len, cap, (zs.take len).map Int.toNat, rfl, rfl, hl, by omega, by omega, (fun e => by cases e), ⟨by simp [us]; omega, fun hp => ⟨a, rfl, ?_, fun k u hu => ?_⟩⟩, ?_⟩
    · have hin : MemPlace.cell a.block a.off ∈ y0.2 ++ y1.2 := by
        rw [hx]
        exact List.mem_append_right _ (MemPlace.mem_row.2 ⟨0, by omega, by simp⟩)
      exact hlt _ hin
    · have hk : k < len := by
        rcases Nat.lt_or_ge k len with hk | hk
        · exact hk
        · rw [List.getElem?_eq_none (by simp [us]; omega)] at hu; cases hu
      have hkz : k < zs.length := by omega
      have e1 : u = .int .u32 (zs[k].toNat : Nat) := by
        simp only [us, List.map_map, List.getElem?_map, List.getElem?_take, if_pos hk, List.getElem?_eq_getElem hkz, Option.map_some, Function.comp_apply, Option.some.injEq] at hu
        exact hu.symm
      rw [hcell k hkz, e1, (toNat_u32 (hwz _ (List.getElem_mem hkz))).1, List.getD_eq_getElem?_getD, List.getElem?_eq_getElem hkz]
      rfl
    · intro x hx'
      simp only [List.mem_map] at hx'
      obtain ⟨z, hz', rfl⟩ := hx'
      exact (toNat_u32 (hwz z (List.mem_of_mem_take hz'))).2
set_option maxRecDepth 100000 in
/-- A rational that came in: four cells. -/
theorem rat_arg {base : Nat} {v : Value} {d : DataW H} {p : List MemPlace} {ts : List TypeId} {ds : List (DataW H)} {j : Nat} (hsz : (DataW.weightsEach Try.prog ts ds).all (· ≤ reachBytes) = true) (hts : ts[j]? = some 28) (hds : ds[j]? = some d)
    (hval : Value.okWide Try.prog W .any base 28 v) (h : DataW.Trod enc Try.prog W 0 (fun _ => true) true 28 v d p) (hlt : ∀ x ∈ p, x.block < W.heap.size) :
    ∃ q : RVal, v = .agg #[.bool q.g, .slice q.A q.n q.c, .bool q.gd, .slice q.Ad q.nd q.cd] ∧ q.In W := by
  obtain ⟨cs, rfl, hc⟩ := okWide_struct Try.underlying28 hval
  obtain ⟨c0, c1, c2, c3, rfl⟩ := array4 (hc.trans Try.cells_Rat)
  obtain ⟨fuel, hf⟩ := h
  obtain ⟨y0, y1, n, hx, _, h0', h1'⟩ := trod_struct2 Try.underlying28 hf
  have h0 : DataW.trod enc Try.prog W 0 (fun _ => true) true n 26 [c0, c1] = some y0 := by simpa [Value.cells, Try.cells_Int] using h0'
  have h1 : DataW.trod enc Try.prog W 0 (fun _ => true) true n 26 [c2, c3] = some y1 := by simpa [Value.cells, Try.cells_Int] using h1'
  simp only [Prod.mk.injEq] at hx
  obtain ⟨rfl, rfl⟩ := hx
  have hw : ∀ m ∈ DataW.weights Try.prog 28 (.agg [y0.1, y1.1]), m ≤ reachBytes := fun m hm => by
    have := List.all_eq_true.1 hsz _ (DataW.weights_mem_each (j := j) (t := 28) hts hds m hm)
    exact of_decide_eq_true this
  obtain ⟨g, A, n', c, xs, rfl, rfl, s1⟩ := int_part h0 (fun m hm => hw m (by simp [DataW.weights, DataW.weightsEach, Try.underlying28]; exact Or.inl hm)) (fun x hx => hlt x (List.mem_append_left _ hx))
  obtain ⟨gd, Ad, nd, cd, ys, rfl, rfl, s2⟩ := int_part h1 (fun m hm => hw m (by simp [DataW.weights, DataW.weightsEach, Try.underlying28]; exact Or.inr hm)) (fun x hx => hlt x (List.mem_append_right _ hx))
  exact ⟨⟨g, A, n', c, xs, gd, Ad, nd, cd, ys⟩, rfl, s1, s2⟩
end
end Go.Proofs.Ytfodjaeknhomkaa
