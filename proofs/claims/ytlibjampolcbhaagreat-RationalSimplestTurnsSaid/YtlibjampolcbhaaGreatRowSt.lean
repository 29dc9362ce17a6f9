/-
  RationalSimplestTurns returns true for any two rationals, valid or not, whatever the memory they share; the arguments read as before. No condition.
-/
import Derived.Carry
import Derived.ChangeMaps5
import Derived.Test.YtlibjampolcbhaaGreatRatSt
import Derived.Test.YtlibjampolcbhaaGreatRatFacts
namespace Go.Proofs.YtlibjampolcbhaaGreat
open Go.RowKit
theorem Bd.more {e f : Nat} {q : Rat} (h : Bd e q) (k : e ≤ f) : Bd f q := ⟨Nat.lt_of_lt_of_le h.1 (pw_le k), Nat.lt_of_lt_of_le h.2 (pw_le k)⟩
theorem Bd.opp {e : Nat} {q : Rat} (h : Bd e q) : Bd e (-q) := ⟨by show (-q.num).natAbs < _; rw [Int.natAbs_neg]; exact h.1, h.2⟩
theorem two_rat : Rat.divInt 2 1 = 2 := by
  have e := qn 2 1 (by decide) (by decide)
  exact Rat.ext e.1 (by have := e.2; show (Rat.divInt 2 1).den = 1; omega)
theorem zero_rat : Rat.divInt 0 1 = 0 := Rat.num_eq_zero.1 (qn 0 1 (by decide) (by decide)).1
theorem bd_zero : Bd 1 (Rat.divInt 0 1) := by
  have e := qn 0 1 (by decide) (by decide)
  have d : (Rat.divInt 0 1).den = 1 := by have := e.2; omega
  exact ⟨by rw [e.1]; decide, by rw [d]; decide⟩
theorem bd_two : Bd 2 (Rat.divInt 2 1) := by
  have e := qn 2 1 (by decide) (by decide)
  have d : (Rat.divInt 2 1).den = 1 := by have := e.2; omega
  exact ⟨by rw [e.1]; decide, by rw [d]; decide⟩
theorem half_bd {s : Rat} {e : Nat} (h : Bd e s) : Bd (e + 1) (s / Rat.divInt 2 1) := by
  have k := rat_div s (Rat.divInt 2 1)
  have e2 := qn 2 1 (by decide) (by decide)
  rw [e2.1, e2.2, Int.mul_one] at k
  have hd := s.den_pos
  have l := divInt_le s.num ((s.den : Int) * 2) (by omega)
  rw [k] at l
  have p2 : pw (e + 1) = 2 * pw e := by rw [pw_add, Nat.mul_comm]; rfl
  have h1 := h.1
  have h2 := h.2
  refine ⟨by omega, ?_⟩
  have : ((s.den : Int) * 2).natAbs = s.den * 2 := by omega
  omega
theorem mid_lt {x y t : Rat} (h : Lt x y) (ht : t + t = x + y) : Lt x t ∧ Lt t y := by
  have h' := (lt_iff x y).1 h
  constructor
  · refine (lt_iff x t).2 ?_
    by_cases k : (x - t).num < 0
    · exact k
    · have a := num_add_nonneg (x := x - t) (y := x - t) (by omega) (by omega)
      have e : (x - t) + (x - t) = x - y := by grind
      rw [e] at a
      omega
  · refine (lt_iff t y).2 ?_
    by_cases k : (t - y).num < 0
    · exact k
    · have a := num_add_nonneg (x := t - y) (y := t - y) (by omega) (by omega)
      have e : (t - y) + (t - y) = x - y := by grind
      rw [e] at a
      omega
theorem rationalSimplestTurns_any (p q : RVal) (w : World) (h1 : p.In w) (h2 : q.In w) :
    Calls Tryz.prog 14 #[.agg #[.bool p.g, .slice p.A p.n p.c, .bool p.gd, .slice p.Ad p.nd p.cd], .agg #[.bool q.g, .slice q.A q.n q.c, .bool q.gd, .slice q.Ad q.nd q.cd]] w fun e w' => e = .returned (.bool true) ∧ Below w.heap.size w w' := by
  rcases hv : vok p q q 32 with _ | _
  · exact turns_no p q w h1 h2 hv
  · obtain ⟨x, y, _, hx, hy, _, bx, by', _⟩ := vok_yes h1 h2 h2 hv
    have bx : Bd 1024 x := bx
    have by' : Bd 1024 y := by'
    by_cases hl : Lt x y
    · have ht : (x + y) / Rat.divInt 2 1 + (x + y) / Rat.divInt 2 1 = x + y := by rw [two_rat]; grind
      have bs : Bd 2049 (x + y) := (bx.add by').more (by decide)
      have bt : Bd 2050 ((x + y) / Rat.divInt 2 1) := (half_bd bs).more (by decide)
      generalize hT : (x + y) / Rat.divInt 2 1 = t at *
      have m := mid_lt hl ht
      obtain ⟨z, b, s1, s2⟩ := simp_pair hl m.1 m.2 (bx.more (by decide)) (by'.more (by decide)) (bt.more (by decide))
      have ls := b.least t m.1 m.2
      have bz : Bd 2050 z := ⟨Nat.lt_of_le_of_lt ls.2 bt.1, Nat.lt_of_le_of_lt ls.1 bt.2⟩
      have e2 := qn 2 1 (by decide) (by decide)
      refine turns_yes p q w h1 h2 hv x y z _ hx hy (less_cmp hl) s1 s2 ⟨bd_zero, bx, by', bz.opp.more (by decide), bs, bd_two⟩ ⟨by rw [zero_rat]; grind, by rw [zero_rat]; grind, by rw [zero_rat]; grind, less_cmp b.lo, less_cmp b.hi, rfl, ?_⟩ (by rw [e2.1]; decide)
      rw [hT, decide_eq_true_iff]
      rcases sign_three ((z.den : Int) - (t.den : Int)) with ⟨k, l⟩ | ⟨k, l⟩ | ⟨k, l⟩ <;> omega
    · refine turns_ge p q w h1 h2 hv x y hx hy _ ⟨rfl, ?_⟩
      unfold Lt at hl
      rw [decide_eq_true_iff]
      exact Int.sign_nonneg_iff.2 (by omega)
open Go.ChangeShapes Go.WideShapes Go.ChangeAt Go.RowKit Go.Joins
set_option maxRecDepth 100000 in
theorem rationalSimplestTurns_lifted (os : Os) (started : os.Started) (H : Type) (enc : TypeId × Value → H) :
    ReturnsInHanded {} Tryz.checked os 14 .any (Rows.rationalSimplestTurnsSpec.pre6 enc Tryz.prog Tryz.f14 Rows.rationalSimplestTurnsRow.domain false) (Rows.rationalSimplestTurnsSpec.post enc Tryz.prog Tryz.f14 false true false false) := by
  refine returnsInHanded_of_change_sized (C := Tryz.checked) Tryz.own started (by kernel_rfl) Tryz.func14
    (ChangeSpec.witness6 (enc := enc) (C := Tryz.checked) false ⟨#[], #[.agg #[.bool false, .slice none 0 0, .bool false, .slice none 0 0], .agg #[.bool false, .slice none 0 0, .bool false, .slice none 0 0]], []⟩ 8 (by kernel_rfl) (by kernel_rfl) (by kernel_rfl) (by kernel_rfl)) ?_
  intro W base args ds gs before hval0 hW _ hsz0 _
  have hsz : (DataW.weightsEach Tryz.prog (Tryz.f14.params.toList ++ Rows.rationalSimplestTurnsSpec.plain.varTypes Tryz.prog) (ds ++ gs)).all (· ≤ reachBytes) = true := hsz0
  clear hsz0
  have hval : ∀ (j : Nat) t v, Tryz.f14.params[j]? = some t → args[j]? = some v → Value.okWide Tryz.prog W .any base t v := hval0
  have hW' := hW
  obtain ⟨p, q, hA0, hV, rfl, _, _⟩ := hW
  have hA : DataW.TrodAll enc Tryz.prog W 0 (fun _ => true) true Tryz.f14.params.toList args.toList ds p := hA0
  rw [Tryz.params14] at hA hval hsz
  obtain ⟨v0, v1, d0, d1, p0, p1, rfl, rfl, rfl, h0, h1⟩ := trodAll_two hA
  obtain ⟨rfl, rfl⟩ := trodVars_none hV
  have hv0 := hval 0 27 v0 rfl rfl
  have hv1 := hval 1 27 v1 rfl rfl
  clear hA0 hval0
  simp only [List.append_nil] at hW'
  have hlt0 : ∀ x ∈ p0, x.block < W.heap.size := fun x hx => hW'.lt x (by simp [hx])
  have hargs0 : ∀ (W' : World), Below W.heap.size W W' → DataW.Trod enc Tryz.prog W' 0 (fun b => decide (b < W.heap.size)) true 27 v0 d0 p0 :=
    fun W' hn => Below.trod Tryz.laidOut (by kernel_rfl) (of_decide_eq_true (by kernel_rfl)) h0 hn hlt0
  have hlt1 : ∀ x ∈ p1, x.block < W.heap.size := fun x hx => hW'.lt x (by simp [hx])
  have hargs1 : ∀ (W' : World), Below W.heap.size W W' → DataW.Trod enc Tryz.prog W' 0 (fun b => decide (b < W.heap.size)) true 27 v1 d1 p1 :=
    fun W' hn => Below.trod Tryz.laidOut (by kernel_rfl) (of_decide_eq_true (by kernel_rfl)) h1 hn hlt1
  obtain ⟨q0, rfl, hs0⟩ := rat_arg (j := 0) hsz rfl rfl hv0 h0 hlt0
  obtain ⟨q1, rfl, hs1⟩ := rat_arg (j := 1) hsz rfl rfl hv1 h1 hlt1
  refine (rationalSimplestTurns_any q0 q1 W hs0 hs1).mono fun e W' ⟨he, hn⟩ => ?_
  subst he
  refine ⟨_, rfl, _, _, _, [], p0 ++ p1, [], hW', ?_, ?_, rfl, hn.frame _, fun h => by cases h⟩
  · exact trodAll_mk1 (shut_bool Tryz.underlying4 _)
  · exact trodAll_mk2 (hargs0 _ hn) (hargs1 _ hn)
theorem rationalSimplestTurns_named : Tryz.pinned.checked.prog.funcNamed Rows.rationalSimplestTurnsRow.func = some 14 := by kernel_rfl
theorem rationalSimplestTurns_rest : restFacts Tryz.prog 14 Tryz.f14 Rows.rationalSimplestTurnsSpec Rows.rationalSimplestTurnsRow = true := by kernel_rfl
theorem rationalSimplestTurns_closed : joinedFacts Tryz.pinned.checked.prog 14 Tryz.f14 Rows.rationalSimplestTurnsSpec Rows.rationalSimplestTurnsRow = true :=
  joined_of Tryz.prog 14 Tryz.f14 Rows.rationalSimplestTurnsSpec Rows.rationalSimplestTurnsRow may_enter (by rw [lifts_final]; rfl) (by rw [made_so]; rfl) rfl rationalSimplestTurns_rest
theorem rationalSimplestTurns_inst : Tryz.f14.isInstance Tryz.pinned.checked.prog Rows.rationalSimplestTurnsRow.origin Rows.rationalSimplestTurnsRow.targs := of_decide_eq_true (by kernel_rfl)
theorem rationalSimplestTurns_wrap : Tryz.f14.isWrapper Tryz.pinned.checked.prog Rows.rationalSimplestTurnsRow.wrapper Rows.rationalSimplestTurnsRow.mainSum := by
  unfold Func.isWrapper; first | (rw [if_pos (by decide +kernel)]; kernel_rfl) | (rw [if_neg (by decide +kernel)]; exact ⟨rfl, rfl⟩)
theorem rationalSimplestTurns_holds : Rows.RationalSimplestTurnsSaid :=
  OpenClaim.holds_of_wide 14 Tryz.f14 rfl rfl rfl rfl rfl rfl rfl ⟨rfl, rfl, rfl, rfl, rfl⟩ rfl rfl rfl rfl rfl rationalSimplestTurns_named Tryz.func14 rationalSimplestTurns_closed rationalSimplestTurns_inst rationalSimplestTurns_wrap
    (fun os started H enc _ => rationalSimplestTurns_lifted os started H enc)
end Go.Proofs.YtlibjampolcbhaaGreat
