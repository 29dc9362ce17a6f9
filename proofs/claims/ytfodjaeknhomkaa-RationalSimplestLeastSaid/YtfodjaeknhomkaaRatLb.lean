/-
  Stage 2: what the laws' walks stand on: calls of rationals by their values, under bounds.
-/
import Derived.Test.YtfodjaeknhomkaaRatY
import Derived.Test.YtfodjaeknhomkaaRatVa
import Derived.Test.YtfodjaeknhomkaaRatL
namespace Go.Proofs.Ytfodjaeknhomkaa
open Go.RowKit
/-- A rational of a value is handed back, and no error. -/
def RetV (x : Rat) (w : World) (e : Ending) (w' : World) : Prop := ∃ q : RVal, e = .returned (.tuple #[.agg #[.bool q.g, .slice q.A q.n q.c, .bool q.gd, .slice q.Ad q.nd q.cd], .int .i64 0]) ∧ q.In w' ∧ rv q.o q.od = some x ∧ Below w.heap.size w w'
theorem RetR.v {x : Rat} {n d : Int} (hn : n = x.num) (hd : d = (x.den : Int)) {w : World} {e : Ending} {w' : World} (h : RetR n d 0 w e w') : RetV x w e w' := by
  obtain ⟨q, rfl, hi, o1, o2, hb⟩ := h
  exact ⟨q, rfl, hi, by rw [o1, o2, hn, hd]; exact rv_of x, hb⟩
section
variable {q q' : RVal} {x y : Rat} {w : World} {e f : Nat}
theorem add_v (h : q.In w) (h' : q'.In w) (hx : rv q.o q.od = some x) (hy : rv q'.o q'.od = some y) (b1 : Bd e x) (b2 : Bd f y) (hb : e + f + 1 ≤ 4096) : Calls Try.prog 9 #[.agg #[.bool q.g, .slice q.A q.n q.c, .bool q.gd, .slice q.Ad q.nd q.cd], .agg #[.bool q'.g, .slice q'.A q'.n q'.c, .bool q'.gd, .slice q'.Ad q'.nd q'.cd]] w (RetV (x + y) w) :=
  (add_ok h h' hx hy (big_le (imul_bd b1.num b2.den) (by omega)) (big_le (imul_bd b2.num b1.den) (by omega)) (big_le (two_bd (imul_bd b1.num b2.den) (by rw [Nat.add_comm]; exact imul_bd b2.num b1.den) (Or.inl rfl)) hb) (big_le (imul_bd b1.den b2.den) (by omega))).mono fun _ _ k => RetR.v rfl rfl k
theorem div_v (h : q.In w) (h' : q'.In w) (hx : rv q.o q.od = some x) (hy : rv q'.o q'.od = some y) (hz : y.num ≠ 0) (b1 : Bd e x) (b2 : Bd f y) (hb : e + f ≤ 4096) : Calls Try.prog 10 #[.agg #[.bool q.g, .slice q.A q.n q.c, .bool q.gd, .slice q.Ad q.nd q.cd], .agg #[.bool q'.g, .slice q'.A q'.n q'.c, .bool q'.gd, .slice q'.Ad q'.nd q'.cd]] w (RetV (x / y) w) :=
  (div_ok h h' hx hy hz (big_le (imul_bd b1.num b2.den) hb) (big_le (imul_bd b1.den b2.num) hb)).mono fun _ _ k => RetR.v rfl rfl k
theorem div_v0 (h : q.In w) (h' : q'.In w) (hx : rv q.o q.od = some x) (hy : rv q'.o q'.od = some y) (hz : y.num = 0) (b1 : Bd e x) (b2 : Bd f y) (hb : e + f ≤ 4096) : Calls Try.prog 10 #[.agg #[.bool q.g, .slice q.A q.n q.c, .bool q.gd, .slice q.Ad q.nd q.cd], .agg #[.bool q'.g, .slice q'.A q'.n q'.c, .bool q'.gd, .slice q'.Ad q'.nd q'.cd]] w (RetR 0 0 4 w) :=
  div_zero h h' hx hy hz (big_le (imul_bd b1.num b2.den) hb) (big_le (imul_bd b1.den b2.num) hb)
theorem same_v (h : q.In w) (h' : q'.In w) (hx : rv q.o q.od = some x) (hy : rv q'.o q'.od = some y) (he : x = y) : Calls Try.prog 15 #[.agg #[.bool q.g, .slice q.A q.n q.c, .bool q.gd, .slice q.Ad q.nd q.cd], .agg #[.bool q'.g, .slice q'.A q'.n q'.c, .bool q'.gd, .slice q'.Ad q'.nd q'.cd]] w fun e w' => e = .returned (.bool true) ∧ Below w.heap.size w w' := by
  subst he
  exact same_q q q' w h h' _ _ (rv_some hx).1 (rv_some hx).2 (rv_some hy).1 (rv_some hy).2
def RetW (x : Rat) (w : World) (e : Ending) (w' : World) : Prop := ∃ q : RVal, e = .returned (.agg #[.bool q.g, .slice q.A q.n q.c, .bool q.gd, .slice q.Ad q.nd q.cd]) ∧ q.In w' ∧ rv q.o q.od = some x ∧ Below w.heap.size w w'
theorem of_v (n d : Int) (w : World) (hd : 0 < d) (hg : gcdZ n d = 1) (h1 : n.natAbs < 4294967296) (h2 : d.natAbs < 4294967296) : Calls Try.prog 6 #[.int .i64 n, .int .i64 d] w (RetW (Rat.divInt n d) w) :=
  (of_c n d w hd hg h1 h2).mono fun _ _ ⟨q, k1, hi, o1, o2, hb⟩ => ⟨q, k1, hi, by rw [o1, o2]; exact rv_mk hd hg, hb⟩
theorem vsh_bd {L : Nat} (h : q.In w) (hx : rv q.o q.od = some x) (hs : vsh q L = true) : Bd (32 * L) x := by
  have o := rv_some hx
  have p1 := ov_parts (show ov q.g q.xs = some x.num from o.1)
  have p2 := ov_parts (show ov q.gd q.ys = some (x.den : Int) from o.2)
  unfold vsh at hs
  rw [Bool.and_eq_true, decide_eq_true_iff, decide_eq_true_iff] at hs
  constructor
  · rw [← p1.2.1]
    refine Nat.lt_of_lt_of_le (val_lt h.1.ok) ?_
    rw [h.1.len, pw_limbs]
    exact pw_le (by omega)
  · rw [← Int.natAbs_natCast x.den, ← p2.2.1]
    refine Nat.lt_of_lt_of_le (val_lt h.2.ok) ?_
    rw [h.2.len, pw_limbs]
    exact pw_le (by omega)
theorem vok_yes {a b c : RVal} {L : Nat} (h1 : a.In w) (h2 : b.In w) (h3 : c.In w) (hv : vok a b c L = true) : ∃ x y z : Rat, rv a.o a.od = some x ∧ rv b.o b.od = some y ∧ rv c.o c.od = some z ∧ Bd (32 * L) x ∧ Bd (32 * L) y ∧ Bd (32 * L) z := by
  unfold vok at hv
  simp only [Bool.and_eq_true] at hv
  obtain ⟨⟨⟨s1, s2⟩, s3⟩, ⟨v1, v2⟩, v3⟩ := hv
  obtain ⟨x, hx⟩ := Option.isSome_iff_exists.1 v1
  obtain ⟨y, hy⟩ := Option.isSome_iff_exists.1 v2
  obtain ⟨z, hz⟩ := Option.isSome_iff_exists.1 v3
  exact ⟨x, y, z, hx, hy, hz, vsh_bd h1 hx s1, vsh_bd h2 hy s2, vsh_bd h3 hz s3⟩
end
end Go.Proofs.Ytfodjaeknhomkaa
