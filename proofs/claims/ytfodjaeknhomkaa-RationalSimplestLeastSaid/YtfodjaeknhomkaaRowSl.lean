/-
  RationalSimplestLeast returns true for any four small integers; the arguments read as before. No condition.
-/
import Derived.Test.YtfodjaeknhomkaaLeSl
import Derived.Carry
import Derived.ChangeMaps5
import Derived.Test.YtfodjaeknhomkaaRatFacts
namespace Go.Proofs.Ytfodjaeknhomkaa
open Go.RowKit

theorem i8_bounds {z : Int} (h : (Lit.int .i8 z).wf = true) : -128 ≤ z ∧ z ≤ 127 := by
  have h1 : IntKind.i8.min = -128 := rfl
  have h2 : IntKind.i8.max = 127 := rfl
  simp only [Lit.wf, Bool.and_eq_true, decide_eq_true_eq] at h
  omega
theorem u8_bounds {z : Int} (h : (Lit.int .u8 z).wf = true) : 0 ≤ z ∧ z ≤ 255 := by
  have h1 : IntKind.u8.min = 0 := rfl
  have h2 : IntKind.u8.max = 255 := rfl
  simp only [Lit.wf, Bool.and_eq_true, decide_eq_true_eq] at h
  omega
theorem tm_bd {a k : Int} (hk : 1 ≤ k) : -(k - 1) ≤ a.tmod k ∧ a.tmod k ≤ k - 1 := by
  have h : (a.tmod k).natAbs < k.natAbs := by rw [Int.natAbs_tmod]; exact Nat.mod_lt _ (by omega)
  omega
theorem rationalSimplestLeast_any (n d m f : Int) (w : World) (h1 : -128 ≤ n ∧ n ≤ 127) (h2 : 0 ≤ d ∧ d ≤ 255) (h3 : -128 ≤ m ∧ m ≤ 127) (h4 : 0 ≤ f ∧ f ≤ 255) :
    Calls Try.prog 3 #[.int .i8 n, .int .u8 d, .int .i8 m, .int .u8 f] w fun e w' => e = .returned (.bool true) ∧ Below w.heap.size w w' := by
  have wn := w64 (z := n) (by omega)
  have wd := w64 (z := d) (by omega)
  have wm := w64 (z := m) (by omega)
  have wf := w64 (z := f) (by omega)
  have b1 := tm_bd (a := n) (k := 61) (by decide)
  have b2 := tm_bd (a := m) (k := 61) (by decide)
  have b3 := tm_bd (a := d) (k := 30) (by decide)
  have b4 := tm_bd (a := f) (k := 30) (by decide)
  have c3 : 0 ≤ d.tmod 30 := Int.tmod_nonneg _ h2.1
  have c4 : 0 ≤ f.tmod 30 := Int.tmod_nonneg _ h4.1
  have e3 := w64 (z := 1 + d.tmod 30) (by omega)
  have e4 := w64 (z := 1 + f.tmod 30) (by omega)
  have hp : (wrap64 n).tmod 61 = n.tmod 61 ∧ wrap64 (1 + (wrap64 d).tmod 30) = 1 + d.tmod 30 ∧ (wrap64 m).tmod 61 = m.tmod 61 ∧ wrap64 (1 + (wrap64 f).tmod 30) = 1 + f.tmod 30 := by
    rw [wn, wd, wm, wf, e3, e4]
    exact ⟨rfl, rfl, rfl, rfl⟩
  have hb : (-60 ≤ n.tmod 61 ∧ n.tmod 61 ≤ 60) ∧ (1 ≤ 1 + d.tmod 30 ∧ 1 + d.tmod 30 ≤ 30) ∧ (-60 ≤ m.tmod 61 ∧ m.tmod 61 ≤ 60) ∧ (1 ≤ 1 + f.tmod 30 ∧ 1 + f.tmod 30 ≤ 30) := by omega
  generalize n.tmod 61 = p at *
  generalize 1 + d.tmod 30 = q at *
  generalize m.tmod 61 = r at *
  generalize 1 + f.tmod 30 = s at *
  have k1 := mul_small (k := p) (q := s) (by omega) (by omega) (by omega) (by omega)
  have k2 := mul_small (k := r) (q := q) (by omega) (by omega) (by omega) (by omega)
  by_cases h : p * s < r * q
  · obtain ⟨z, sm, g⟩ := got p q r s hb.1 hb.2.1 hb.2.2.1 hb.2.2.2 h
    exact least_yes n d m f p q r s w hp hb ⟨w64 k1, w64 k2⟩ z h sm g
  · exact least_no n d m f p q r s w hp hb ⟨w64 k1, w64 k2⟩ (by omega)
end Go.Proofs.Ytfodjaeknhomkaa

namespace Go.Proofs.Ytfodjaeknhomkaa
open Go.ChangeShapes Go.WideShapes Go.ChangeAt Go.RowKit Go.Joins

set_option maxRecDepth 100000 in
theorem rationalSimplestLeast_lifted (os : Os) (started : os.Started) (H : Type) (enc : TypeId × Value → H) :
    ReturnsInHanded {} Try.checked os 3 .any (Rows.rationalSimplestLeastSpec.pre6 enc Try.prog Try.f3 Rows.rationalSimplestLeastRow.domain false) (Rows.rationalSimplestLeastSpec.post enc Try.prog Try.f3 false true false false) := by
  refine returnsInHanded_of_change_sized (C := Try.checked) Try.own started (by kernel_rfl) Try.func3
    (ChangeSpec.witness6 (enc := enc) (C := Try.checked) false ⟨#[], #[.int .i8 0, .int .u8 0, .int .i8 0, .int .u8 0], []⟩ 8 (by kernel_rfl) (by kernel_rfl) (by kernel_rfl) (by kernel_rfl)) ?_
  intro W base args ds gs before hval0 hW _ hsz0 _
  have hsz : (DataW.weightsEach Try.prog (Try.f3.params.toList ++ Rows.rationalSimplestLeastSpec.plain.varTypes Try.prog) (ds ++ gs)).all (· ≤ reachBytes) = true := hsz0
  clear hsz0
  have hval : ∀ (j : Nat) t v, Try.f3.params[j]? = some t → args[j]? = some v → Value.okWide Try.prog W .any base t v := hval0
  have hW' := hW
  obtain ⟨p, q, hA0, hV, rfl, _, _⟩ := hW
  have hA : DataW.TrodAll enc Try.prog W 0 (fun _ => true) true Try.f3.params.toList args.toList ds p := hA0
  rw [Try.params3] at hA hval hsz
  obtain ⟨v0, v1, v2, v3, d0, d1, d2, d3, p0, p1, p2, p3, rfl, rfl, rfl, h0, h1, h2, h3⟩ := trodAll_four hA
  obtain ⟨rfl, rfl⟩ := trodVars_none hV
  obtain ⟨z0, rfl, rfl, rfl, wz0⟩ := open_int Try.underlying22 (hval 0 22 v0 rfl rfl) h0
  obtain ⟨z1, rfl, rfl, rfl, wz1⟩ := open_int Try.underlying5 (hval 1 5 v1 rfl rfl) h1
  obtain ⟨z2, rfl, rfl, rfl, wz2⟩ := open_int Try.underlying22 (hval 2 22 v2 rfl rfl) h2
  obtain ⟨z3, rfl, rfl, rfl, wz3⟩ := open_int Try.underlying5 (hval 3 5 v3 rfl rfl) h3
  clear hA0 hval0
  simp only [List.append_nil] at hW'
  refine (rationalSimplestLeast_any z0 z1 z2 z3 W (i8_bounds wz0) (u8_bounds wz1) (i8_bounds wz2) (u8_bounds wz3)).mono fun e W' ⟨he, hn⟩ => ?_
  subst he
  refine ⟨_, rfl, _, _, _, [], [] ++ ([] ++ ([] ++ [])), [], hW', ?_, ?_, rfl, hn.frame _, fun h => by cases h⟩
  · exact trodAll_mk1 (shut_bool Try.underlying4 _)
  · exact trodAll_mk4 (shut_int Try.underlying22 wz0) (shut_int Try.underlying5 wz1) (shut_int Try.underlying22 wz2) (shut_int Try.underlying5 wz3)

theorem rationalSimplestLeast_named : Try.pinned.checked.prog.funcNamed Rows.rationalSimplestLeastRow.func = some 3 := by kernel_rfl
theorem rationalSimplestLeast_rest : restFacts Try.prog 3 Try.f3 Rows.rationalSimplestLeastSpec Rows.rationalSimplestLeastRow = true := by kernel_rfl
theorem rationalSimplestLeast_closed : joinedFacts Try.pinned.checked.prog 3 Try.f3 Rows.rationalSimplestLeastSpec Rows.rationalSimplestLeastRow = true :=
  joined_of Try.prog 3 Try.f3 Rows.rationalSimplestLeastSpec Rows.rationalSimplestLeastRow may_enter (by rw [lifts_final]; rfl) (by rw [made_so]; rfl) rfl rationalSimplestLeast_rest
theorem rationalSimplestLeast_inst : Try.f3.isInstance Try.pinned.checked.prog Rows.rationalSimplestLeastRow.origin Rows.rationalSimplestLeastRow.targs := of_decide_eq_true (by kernel_rfl)
theorem rationalSimplestLeast_wrap : Try.f3.isWrapper Try.pinned.checked.prog Rows.rationalSimplestLeastRow.wrapper Rows.rationalSimplestLeastRow.mainSum := by
  unfold Func.isWrapper; first | (rw [if_pos (by decide +kernel)]; kernel_rfl) | (rw [if_neg (by decide +kernel)]; exact ⟨rfl, rfl⟩)
theorem rationalSimplestLeast_holds : Rows.RationalSimplestLeastSaid :=
  OpenClaim.holds_of_wide 3 Try.f3 rfl rfl rfl rfl rfl rfl rfl ⟨rfl, rfl, rfl, rfl, rfl⟩ rfl rfl rfl rfl rfl rationalSimplestLeast_named Try.func3 rationalSimplestLeast_closed rationalSimplestLeast_inst rationalSimplestLeast_wrap
    (fun os started H enc _ => rationalSimplestLeast_lifted os started H enc)

end Go.Proofs.Ytfodjaeknhomkaa
