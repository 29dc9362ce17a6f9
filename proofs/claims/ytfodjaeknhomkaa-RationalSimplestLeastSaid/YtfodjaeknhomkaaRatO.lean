/-
  Stage 2: Of, of the program's integers and of its rationals, and the law's own of.
-/
import Derived.Test.YtfodjaeknhomkaaRatM
namespace Go.Proofs.Ytfodjaeknhomkaa
open Go.RowKit
theorem wrap_of_neg (n : Int) (h1 : -9223372036854775808 ≤ n) (h2 : n < 0) : IntKind.u64.wrap (-(IntKind.u64.wrap n)) = -n := by
  rw [IntKind.wrap_u64, IntKind.wrap_u64]; omega
set_option maxHeartbeats 1000000 in
theorem of_any (n : Int) (w : World) (h1 : -9223372036854775808 ≤ n) (h2 : n ≤ 9223372036854775807) :
    Calls Try.prog 17 #[.int .i64 n] w (RetI n w) := by
  have Hb := Lib.hid ((Below.refl w.heap.size w).alloc (Nat.le_refl _) (.cells #[.bool false, .slice none 0 0] 26))
  by_cases h0 : n < 0
  · have W := Lib.hid (wrap_of_neg n h1 h0)
    have Hd := Lib.hid (show true = decide (n < 0) by simp; omega)
    go_enter Try.func17, Try.ntmps17
    go_wp2_with fail
    rw [W.out]
    refine (ofWord_any (-n) _ (by omega) (by omega)).mono ?_
    rintro e w1 ⟨A1, n1, c1, xs1, rfl, hs1, hx1, hv1, hb1⟩
    have hbx := (Bx.new w false none 0 0).below hb1 (by simp)
    have hc0 := hbx.c0
    have hc1 := hbx.c1
    have hf0 := hbx.f 0
    have hf1 := hbx.f 1
    have Hbx := Lib.hid hbx
    have Hv := Lib.hid hv1
    clear hv1 hbx
    go_wp2
    exact bodyPost_ret (v := .agg #[.bool true, .slice A1 n1 c1]) (by simp [results, Try.results17, go_sem, hc0, hc1]) rfl
      ⟨A1, n1, c1, xs1, ret_neg Hd.out, hs1.ret Hbx.out _ _, hx1, by rw [Hv.out]; omega, below_ret (below_chain Hb.out (by simp) hb1) (Nat.le_refl _) _ _⟩
  · have h3 : 0 ≤ n := by omega
    have Hd := Lib.hid (show false = decide (n < 0) by simp; omega)
    go_enter Try.func17, Try.ntmps17
    go_wp2_with fail
    refine (ofWord_any n _ (by omega) (by omega)).mono ?_
    rintro e w1 ⟨A1, n1, c1, xs1, rfl, hs1, hx1, hv1, hb1⟩
    have hbx := (Bx.new w false none 0 0).below hb1 (by simp)
    have hc0 := hbx.c0
    have hc1 := hbx.c1
    have hf0 := hbx.f 0
    have hf1 := hbx.f 1
    have Hbx := Lib.hid hbx
    have Hv := Lib.hid hv1
    clear hv1 hbx
    go_wp2
    exact bodyPost_ret (v := .agg #[.bool false, .slice A1 n1 c1]) (by simp [results, Try.results17, go_sem, hc0, hc1]) rfl
      ⟨A1, n1, c1, xs1, ret_neg Hd.out, hs1.ret Hbx.out _ _, hx1, by rw [Hv.out]; omega, below_ret (below_chain Hb.out (by simp) hb1) (Nat.le_refl _) _ _⟩
/-- What a function hands back: a rational of numerator z and denominator zd. -/
def RetQ (z zd : Int) (w : World) (e : Ending) (w' : World) : Prop := ∃ q : RVal, e = .returned (.agg #[.bool q.g, .slice q.A q.n q.c, .bool q.gd, .slice q.Ad q.nd q.cd]) ∧ q.In w' ∧ q.o = some z ∧ q.od = some zd ∧ Below w.heap.size w w'
theorem RetQ.of {z zd : Int} {w U : World} {r : Nat} {q : RVal} (h : Rb U r q) (hz : q.o = some z) (hd : q.od = some zd) (hb : Below w.heap.size w U) : RetQ z zd w (.returned (.agg #[.bool q.g, .slice q.A q.n q.c, .bool q.gd, .slice q.Ad q.nd q.cd])) U := ⟨q, rfl, h.sl, hz, hd, hb⟩
theorem i64_big {n : Int} (h1 : -9223372036854775808 ≤ n) (h2 : n ≤ 9223372036854775807) : n.natAbs < BIG := by
  rw [big_pw]
  exact Nat.lt_of_lt_of_le (show n.natAbs < pw 64 by unfold pw; omega) (pw_le (by omega))
set_option maxHeartbeats 1000000 in
theorem ratOf_any (n d : Int) (w : World) (h1 : -9223372036854775808 ≤ n) (h2 : n ≤ 9223372036854775807) (h3 : -9223372036854775808 ≤ d) (h4 : d ≤ 9223372036854775807) :
    Calls Try.prog 20 #[.int .i64 n, .int .i64 d] w (RetR (mkN (some n) (some d)) (mkD (some n) (some d)) (mkE (some n) (some d)) w) := by
  have HN := Lib.hid (i64_big h1 h2)
  have HD := Lib.hid (i64_big h3 h4)
  generalize hz : mkN (some n) (some d) = z
  generalize hzd : mkD (some n) (some d) = zd
  generalize he : mkE (some n) (some d) = er
  have HZ := Lib.hid (And.intro hz (And.intro hzd he))
  have H12 := Lib.hid (And.intro (And.intro h1 h2) (And.intro h3 h4))
  clear hz hzd he h1 h2 h3 h4
  have R0 := Lib.hid (Rb.new (RVal.nil_in w))
  have B0 := Lib.hid (below_new w (.cells #[.bool RVal.nil.g, .slice RVal.nil.A RVal.nil.n RVal.nil.c, .bool RVal.nil.gd, .slice RVal.nil.Ad RVal.nil.nd RVal.nil.cd] 28))
  go_enter Try.func20, Try.ntmps20
  go_wp2_with fail
  refine (of_any n _ H12.out.1.1 H12.out.1.2).mono ?_
  rintro e w1 ⟨A1, n1, c1, xs1, rfl, hs1, hx1, hv1, hb1⟩
  have R1 := Lib.hid (R0.out.on hb1)
  have B1 := Lib.hid (below_chain B0.out B0.out.size hb1)
  have O1 := Lib.hid (ov_res hs1.ok hx1 hv1 HN.out)
  have S1 := Lib.hid hs1
  clear hs1 hx1 hv1 hb1 R0 B0
  go_wp2_with fail
  refine (of_any d _ H12.out.2.1 H12.out.2.2).mono ?_
  rintro e w2 ⟨A2, n2, c2, xs2, rfl, hs2, hx2, hv2, hb2⟩
  have R2 := Lib.hid (R1.out.on hb2)
  have B2 := Lib.hid (below_chain B1.out B1.out.size hb2)
  have O2 := Lib.hid (ov_res hs2.ok hx2 hv2 HD.out)
  have S2 := Lib.hid (And.intro (S1.out.on hb2) hs2)
  clear hs2 hx2 hv2 hb2 R1 B1 S1
  go_wp2_with fail
  have C := make_ov (neg := decide (n < 0)) (neg' := decide (d < 0)) S2.out.1 S2.out.2
  rw [O1.out, O2.out, HZ.out.1, HZ.out.2.1, HZ.out.2.2] at C
  refine C.mono ?_
  clear C
  rintro e w3 ⟨q, rfl, hq, ho, hod, hb3⟩
  have R3 := Lib.hid (R2.out.on hb3)
  have B3 := Lib.hid (below_chain B2.out B2.out.size hb3)
  have HQ := Lib.hid (And.intro hq (And.intro ho hod))
  clear hq ho hod hb3 R2 B2 S2 O1 O2
  have f0 := R3.out.f 0
  have f1 := R3.out.f 1
  have f2 := R3.out.f 2
  have f3 := R3.out.f 3
  have q0 := R3.out.c0
  have q1 := R3.out.c1
  have q2 := R3.out.c2
  have q3 := R3.out.c3
  simp only [RVal.nil] at q0 q1 q2 q3
  go_wp2
  generalize hU : World.setCell (World.setCell (World.setCell (World.setCell w3 _ _) _ _) _ _) _ _ = U
  have RU : Rb U w.heap.size q := by rw [← hU]; exact Rb.put R3.out HQ.out.1
  have HU : Below w.heap.size w U := by rw [← hU]; exact below_put4 B3.out (Nat.le_refl _) _ _ _ _
  have j0 := RU.c0
  have j1 := RU.c1
  have j2 := RU.c2
  have j3 := RU.c3
  refine bodyPost_ret (v := .tuple #[.agg #[.bool q.g, .slice q.A q.n q.c, .bool q.gd, .slice q.Ad q.nd q.cd], .int .i64 er]) (by simp [results, Try.results20, go_sem, j0, j1, j2, j3]) rfl ?_
  exact RetR.of RU HQ.out.2.1 HQ.out.2.2 HU
set_option maxHeartbeats 1000000 in
theorem of_q (n d z zd : Int) (w : World) (h1 : -9223372036854775808 ≤ n) (h2 : n ≤ 9223372036854775807) (h3 : -9223372036854775808 ≤ d) (h4 : d ≤ 9223372036854775807) (hz : mkN (some n) (some d) = z) (hzd : mkD (some n) (some d) = zd) :
    Calls Try.prog 6 #[.int .i64 n, .int .i64 d] w (RetQ z zd w) := by
  have C := fun w => ratOf_any n d w h1 h2 h3 h4
  rw [hz, hzd] at C
  generalize mkE (some n) (some d) = er at C
  have HC := Lib.hid C
  clear C hz hzd h1 h2 h3 h4
  have R0 := Lib.hid (Rb.new (RVal.nil_in w))
  have B0 := Lib.hid (below_new w (.cells #[.bool RVal.nil.g, .slice RVal.nil.A RVal.nil.n RVal.nil.c, .bool RVal.nil.gd, .slice RVal.nil.Ad RVal.nil.nd RVal.nil.cd] 28))
  go_enter Try.func6, Try.ntmps6
  go_wp2_with fail
  refine (HC.out _).mono ?_
  rintro e w3 ⟨q, rfl, hq, ho, hod, hb3⟩
  have R3 := Lib.hid (R0.out.on hb3)
  have B3 := Lib.hid (below_chain B0.out B0.out.size hb3)
  have HQ := Lib.hid (And.intro hq (And.intro ho hod))
  clear hq ho hod hb3 R0 B0
  have f0 := R3.out.f 0
  have f1 := R3.out.f 1
  have f2 := R3.out.f 2
  have f3 := R3.out.f 3
  have q0 := R3.out.c0
  have q1 := R3.out.c1
  have q2 := R3.out.c2
  have q3 := R3.out.c3
  have lt := R3.out.lt
  simp only [RVal.nil] at q0 q1 q2 q3
  go_wp2
  generalize hU : World.alloc (World.setCell (World.setCell (World.setCell (World.setCell w3 _ _) _ _) _ _) _ _) _ = U
  have RU' := (Rb.alloc (Rb.put R3.out HQ.out.1) (.cells #[.bool q.g, .slice q.A q.n q.c, .bool q.gd, .slice q.Ad q.nd q.cd] 28))
  have RU : Rb U w.heap.size q := by rw [← hU]; exact RU'
  have HU : Below w.heap.size w U := by rw [← hU]; exact (below_chain (below_put4 B3.out (Nat.le_refl _) _ _ _ _) (Nat.le_trans B3.out.size (Nat.le_of_eq (put4_size _ _ _ _ _ _).symm)) (below_new _ (.cells #[.bool q.g, .slice q.A q.n q.c, .bool q.gd, .slice q.Ad q.nd q.cd] 28)))
  have j0 := RU.c0
  have j1 := RU.c1
  have j2 := RU.c2
  have j3 := RU.c3
  refine bodyPost_ret (v := .agg #[.bool q.g, .slice q.A q.n q.c, .bool q.gd, .slice q.Ad q.nd q.cd]) (by simp [results, Try.results6, go_sem, j0, j1, j2, j3]) rfl ?_
  exact RetQ.of RU HQ.out.2.1 HQ.out.2.2 HU
end Go.Proofs.Ytfodjaeknhomkaa
