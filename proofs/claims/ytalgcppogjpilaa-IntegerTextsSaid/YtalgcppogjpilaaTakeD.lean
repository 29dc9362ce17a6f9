/-
  The walk of takeDigit: one digit of a long division.
-/
import Derived.Test.YtalgcppogjpilaaSubP
import Derived.Test.YtalgcppogjpilaaDiv
namespace Go.Proofs.Ytalgcppogjpilaa
open Go.RowKit

/-- An estimate that is tested and found too big. -/
theorem knuth_dec {U V P Lv Lu v1 v2 a0 top D Lf : Nat} (hU : U = Lu + P * (a0 + 4294967296 * top)) (hLu : Lu < P) (hV : V = Lv + P * (v2 + 4294967296 * v1)) (ht : D * v1 + Lf = top) (h : 4294967296 * Lf + a0 < D * v2) : U < D * V := by
  rcases Nat.lt_or_ge U (D * V) with h1 | h1
  · exact h1
  · exfalso
    have a : P * (D * (v2 + 4294967296 * v1)) ≤ D * V := by
      have := Nat.mul_le_mul_left D (show P * (v2 + 4294967296 * v1) ≤ V by rw [hV]; exact Nat.le_add_left _ _)
      rwa [Nat.mul_left_comm] at this
    have b : U < P * (a0 + 4294967296 * top + 1) := by rw [hU, Nat.mul_add P (a0 + 4294967296 * top) 1]; omega
    have c := Nat.lt_of_mul_lt_mul_left (Nat.lt_of_le_of_lt (Nat.le_trans a h1) b)
    rw [Nat.mul_add, ← ht, Nat.mul_left_comm D 4294967296 v1] at c
    generalize D * v1 = p at *
    generalize D * v2 = q at *
    omega
/-- An estimate that is kept is at most one too big. -/
theorem knuth_ok {U V P Lv Lu v1 v2 a0 top D Lf : Nat} (hU : U = Lu + P * (a0 + 4294967296 * top)) (hV : V = Lv + P * (v2 + 4294967296 * v1)) (hLv : Lv < P) (hv1 : 0 < v1) (hv2 : v2 < 4294967296) (ht : D * v1 + Lf = top) (hD : D < 4294967296)
    (h : D * v2 ≤ 4294967296 * Lf + a0 ∨ 4294967296 ≤ Lf) : D * V ≤ U + V := by
  have a : D * v2 ≤ 4294967296 * Lf + a0 := by
    rcases h with h | h
    · exact h
    · have := Nat.mul_le_mul (Nat.le_of_lt hD) (Nat.le_of_lt hv2)
      omega
  have b : D * (v2 + 4294967296 * v1) ≤ a0 + 4294967296 * top := by
    rw [Nat.mul_add, ← ht, Nat.mul_left_comm D 4294967296 v1]
    generalize D * v1 = p at *
    generalize D * v2 = q at *
    omega
  have c : P * (D * (v2 + 4294967296 * v1)) ≤ U := Nat.le_trans (Nat.mul_le_mul_left P b) (by rw [hU]; exact Nat.le_add_left _ _)
  have d : D * Lv ≤ V := by
    have e1 : D * Lv ≤ 4294967296 * P := Nat.mul_le_mul (Nat.le_of_lt hD) (Nat.le_of_lt hLv)
    have e2 : P * (4294967296 * 1) ≤ P * (v2 + 4294967296 * v1) := Nat.mul_le_mul_left P (by omega)
    rw [Nat.mul_one, Nat.mul_comm P 4294967296] at e2
    rw [hV]; omega
  have e : D * V = D * Lv + P * (D * (v2 + 4294967296 * v1)) := by
    rw [hV, Nat.mul_add D Lv, Nat.mul_left_comm D P]
  omega
theorem knuth_top {U V P Lv Lu v1 v2 a0 a1 a2 : Nat} (hU : U = Lu + P * (a0 + 4294967296 * (a1 + 4294967296 * a2))) (hV : V = Lv + P * (v2 + 4294967296 * v1)) (hLv : Lv < P) (hv2 : v2 < 4294967296) (h : U < V * 4294967296) : a2 ≤ v1 := by
  rcases Nat.lt_or_ge v1 a2 with h1 | h1
  · exfalso
    have a : V + 1 ≤ P * (4294967296 * (v1 + 1)) := by
      rw [hV]
      have : P * (v2 + 4294967296 * v1 + 1) ≤ P * (4294967296 * (v1 + 1)) := Nat.mul_le_mul_left P (by omega)
      rw [Nat.mul_add P _ 1] at this
      omega
    have b : P * (4294967296 * (v1 + 1)) * 4294967296 ≤ U := by
      rw [hU]
      have : P * ((4294967296 * (v1 + 1)) * 4294967296) ≤ P * (a0 + 4294967296 * (a1 + 4294967296 * a2)) := Nat.mul_le_mul_left P (by omega)
      rw [← Nat.mul_assoc] at this
      omega
    have c : (V + 1) * 4294967296 ≤ P * (4294967296 * (v1 + 1)) * 4294967296 := Nat.mul_le_mul_right _ a
    omega
  · exact h1
/-- The quotient, out of an estimate that is right or one too big. -/
theorem knuth_div {U V q R : Nat} (h1 : R + q * V = U) (h2 : R < V) : U / V = q ∧ U % V = R := by
  have hp : 0 < V := by omega
  rw [← h1, Nat.add_mul_div_right _ _ hp, Nat.div_eq_of_lt h2, Nat.add_mul_mod_self_right, Nat.mod_eq_of_lt h2]
  exact ⟨Nat.zero_add _, rfl⟩
theorem wv_two (zs : List Nat) (off m : Nat) : wv zs off (m + 2) = wv zs off m + 4294967296 ^ m * (lim zs (off + m) + 4294967296 * lim zs (off + (m + 1))) := by
  rw [wv_succ, wv_succ, Nat.pow_succ, Nat.mul_add, Nat.mul_assoc, Nat.add_assoc]
theorem wv_three (zs : List Nat) (off m : Nat) : wv zs off (m + 3) = wv zs off m + 4294967296 ^ m * (lim zs (off + m) + 4294967296 * (lim zs (off + (m + 1)) + 4294967296 * lim zs (off + (m + 2)))) := by
  rw [wv_succ, wv_two]
  simp only [Nat.pow_succ, Nat.mul_add, Nat.mul_assoc, Nat.add_assoc]

theorem knuth_start {U V P Lv Lu v1 v2 a0 top D : Nat} (hU : U = Lu + P * (a0 + 4294967296 * top)) (hV : V = Lv + P * (v2 + 4294967296 * v1)) (hLu : Lu < P) (hu : a0 < 4294967296) (h : top < (D + 1) * v1) : U < (D + 1) * V := by
  have a : P * ((D + 1) * (4294967296 * v1)) ≤ (D + 1) * V := by
    have := Nat.mul_le_mul_left (D + 1) (show P * (4294967296 * v1) ≤ V by rw [hV]; exact Nat.le_trans (Nat.mul_le_mul_left P (Nat.le_add_left _ _)) (Nat.le_add_left _ _))
    rwa [Nat.mul_left_comm] at this
  have b : U < P * (a0 + 4294967296 * top + 1) := by rw [hU, Nat.mul_add P (a0 + 4294967296 * top) 1]; omega
  have c : a0 + 4294967296 * top + 1 ≤ (D + 1) * (4294967296 * v1) := by
    rw [Nat.mul_left_comm]
    generalize (D + 1) * v1 = p at *
    omega
  exact Nat.lt_of_lt_of_le b (Nat.le_trans (Nat.mul_le_mul_left P c) a)

/-- What a digit leaves. -/
def Digit (g off k : Nat) (zs : List Nat) (U V : Nat) (w : World) (e : Ending) (w' : World) : Prop :=
  ∃ (zs' : List Nat) (q : Nat), e = .returned (.int .u32 (q : Int)) ∧ U / V = q ∧ q < 4294967296 ∧ Row w' g zs' ∧ Ok zs' ∧ Same zs zs' off (off + k) ∧ wv zs' off k = U % V ∧ w.grownBy w' (some g)

theorem digit_keep {g off k : Nat} {zs zs' : List Nat} {U V D : Nat} {w w' : World} (hD : D < 4294967296) (hr : Row w' g zs') (ho : Ok zs') (hs : Same zs zs' off (off + k)) (hg : w.grownBy w' (some g)) (hq : U < (D + 1) * V)
    (hv : wv zs' off k + V * D = U) : Digit g off k zs U V w (.returned (.int .u32 (D : Int))) w' := by
  have h2 : wv zs' off k < V := by
    rw [Nat.add_mul, Nat.one_mul, Nat.mul_comm D V] at hq; omega
  have := knuth_div (U := U) (q := D) (by rw [Nat.mul_comm D V]; exact hv) h2
  exact ⟨zs', D, rfl, this.1, hD, hr, ho, hs, this.2.symm, hg⟩
theorem digit_less {g off k cy : Nat} {zs zs' zs'' : List Nat} {U V D Q : Nat} {w w' w'' : World} (hD : D < 4294967296) (hr : Row w'' g zs'') (ho : Ok zs'') (hs : Same zs zs' off (off + k)) (hs' : Same zs' zs'' off (off + k)) (hg : w.grownBy w' (some g)) (hg' : w'.grownBy w'' (some g))
    (hlt : wv zs'' off k < Q) (hlt' : wv zs' off k < Q) (hcy : cy ≤ 1) (hok : D * V ≤ U + V) (hv : wv zs' off k + V * D = U + Q * 1) (hv' : wv zs'' off k + Q * cy = wv zs' off k + V) :
    Digit g off k zs U V w (.returned (.int .u32 (((D - 1 : Nat) : Nat) : Int))) w'' := by
  have hD0 : 0 < D := by
    rcases Nat.eq_zero_or_pos D with e | e
    · subst e; rw [Nat.mul_zero] at hv; omega
    · exact e
  obtain ⟨D', rfl⟩ : ∃ D', D = D' + 1 := ⟨D - 1, by omega⟩
  rw [Nat.mul_add, Nat.mul_one] at hv
  rw [Nat.add_mul, Nat.one_mul, Nat.mul_comm D' V] at hok
  generalize hp : V * D' = p at *
  have e : wv zs'' off k + p = U ∧ wv zs'' off k < V := by
    rcases Nat.lt_or_ge cy 1 with h | h
    · obtain rfl : cy = 0 := by omega
      rw [Nat.mul_zero] at hv'; omega
    · obtain rfl : cy = 1 := by omega
      rw [Nat.mul_one] at hv' hv; omega
  have := knuth_div (U := U) (q := D') (by rw [Nat.mul_comm D' V, hp]; exact e.1) e.2
  exact ⟨zs'', D', by rw [Nat.add_sub_cancel], this.1, by omega, hr, ho, hs.trans hs', this.2.symm, grown_trans hg hg'⟩

theorem subProduct_of (g off c B m q d f : Nat) (A : Option Addr) (zs ys : List Nat) (w : World) (e : q = m + 1) (hr : Row w g zs) (hoff : off + q ≤ zs.length) (hz : Ok zs) (hl : off + q ≤ 35184372088832)
    (h : Sl w B A m d ys) (hB : B ≤ g) (hf : f < 4294967296) :
    Calls Try.prog 101 #[.slice (some ⟨g, off, none⟩) q c, .slice A m d, .int .u32 f] w fun e w' => ∃ (zs' : List Nat) (b : Bool), e = .returned (.bool b) ∧ Row w' g zs' ∧ Ok zs' ∧ Same zs zs' off (off + q) ∧
      wv zs' off q + val ys * f = wv zs off q + 4294967296 ^ q * (if b then 1 else 0) ∧ w.grownBy w' (some g) := by
  subst e
  exact subProduct_any g off c B m d f A zs ys w hr hoff hz hl h hB hf

set_option maxRecDepth 100000 in
set_option maxHeartbeats 4000000 in
theorem takeDigit_raw (g off c B m q1 q2 q3 d : Nat) (A : Option Addr) (zs ys : List Nat) (w : World) (e1 : q1 = m + 1) (e2 : q2 = m + 2) (e3 : q3 = m + 3) (hr : Row w g zs) (hoff : off + q3 ≤ zs.length) (hz : Ok zs) (hl : off + q3 ≤ 35184372088832)
    (h : Sl w B A q2 d ys) (hB : B ≤ g) (hy : Nz ys) (hlt : wv zs off q3 < val ys * 4294967296) :
    Calls Try.prog 96 #[.slice (some ⟨g, off, none⟩) q3 c, .slice A q2 d] w (Digit g off q3 zs (wv zs off q3) (val ys) w) := by
  have hcap := h.cap
  have hreach := h.reach
  have hcr := h.capr
  have hlen := h.len
  have hV : val ys = wv ys 0 m + 4294967296 ^ m * (lim ys m + 4294967296 * lim ys q1) := by
    have := wv_two ys 0 m
    rw [wv_all ys (by omega), Nat.zero_add, Nat.zero_add, ← e1] at this
    exact this
  have hU := wv_three zs off m
  rw [← e1, ← e2, ← e3] at hU
  have hLv := wv_lt h.ok 0 m
  have hLu := wv_lt hz off m
  have hv1 : 0 < lim ys q1 := by
    have hne : ys ≠ [] := by rintro rfl; simp at hlen; omega
    have := (nz_iff hne).1 hy
    rw [hlen, show q2 - 1 = q1 by omega] at this
    exact Nat.pos_of_ne_zero this
  have b1 := h.ok.lim q1
  have b2 := h.ok.lim m
  have d0 := hz.lim (off + m)
  have d1 := hz.lim (off + q1)
  have d2 := hz.lim (off + q2)
  have htop := knuth_top hU hV hLv b2 hlt
  obtain ⟨ad, rfl, hadb, y1⟩ := h.cell (k := q1) (by omega)
  obtain ⟨ad', e, _, y2⟩ := h.cell (k := m) (by omega)
  injection e with e
  subst e
  have z0 := hr.cell (i := off + m) (by omega)
  have z1 := hr.cell (i := off + q1) (by omega)
  have z2 := hr.cell (i := off + q2) (by omega)
  have HM := Lib.hid (And.intro hU (And.intro hV (And.intro hLv (And.intro hLu (And.intro hlt htop)))))
  clear hU hV hLv hLu hlt htop hlen
  generalize hv1e : lim ys q1 = v1 at *
  generalize hv2e : lim ys m = v2 at *
  generalize hu0e : lim zs (off + m) = a0 at *
  generalize hu1e : lim zs (off + q1) = a1 at *
  generalize hu2e : lim zs (off + q2) = a2 at *
  clear hv1e hv2e hu0e hu1e hu2e
  have i1 : (q2 : Int) - 1 = (q1 : Int) := by omega
  have i2 : (q2 : Int) - 2 = (m : Int) := by omega
  have j1 : IntKind.i64.wrap (q1 : Int) = (q1 : Int) := IntWalk.i64_in _ (by omega)
  have j2 : IntKind.i64.wrap (m : Int) = (m : Int) := IntWalk.i64_in _ (by omega)
  have k1 : (q1 : Int) < (q2 : Int) := by omega
  have k2 : (m : Int) < (q2 : Int) := by omega
  have k3 : (q2 : Int) < (q3 : Int) := by omega
  have k4 : (q1 : Int) < (q3 : Int) := by omega
  have k5 : (m : Int) < (q3 : Int) := by omega
  have n1 : (0 : Int) ≤ (q1 : Int) := by omega
  have n2 : (0 : Int) ≤ (m : Int) := by omega
  have n3 : (0 : Int) ≤ (q2 : Int) := by omega
  have HE := Lib.hid (And.intro e1 (And.intro e2 e3))
  clear e1 e2 e3
  have hor := or_shift a2 a1 d1 d2
  have hz1 : ((v1 : Int) == 0) = false := by rw [beq_eq_false_iff_ne]; omega
  go_enter Try.func96, Try.ntmps96
  go_wp2_with fail
  go_quiet (fail)
  go_wp2_with fail
  go_quiet (fail)
  go_wp2_with fail
  go_quiet (fail)
  go_wp2
  simp only [World.drewN_drewN]
  generalize hW : World.drewN w _ = W1
  have hrW : Row W1 g zs := by rw [← hW]; exact hr
  have hW' : Sl W1 B (some ad) q2 d ys := by rw [← hW]; exact h.drewN _
  have hgW : w.grownBy W1 (some g) := by rw [← hW]; exact grown_drewN (World.grownBy.refl w _) _
  have y1' : W1.cell? (ad.add q1) = some (.int .u32 (v1 : Nat)) := by rw [← hW]; exact y1
  have y2' : W1.cell? (ad.add m) = some (.int .u32 (v2 : Nat)) := by rw [← hW]; exact y2
  have z0' : W1.cell? ⟨g, off + m, none⟩ = some (.int .u32 (a0 : Nat)) := by rw [← hW]; exact z0
  clear hW y1 y2 z0 z1 z2 hor j1 j2
  have Hq2 : q2 ≤ q3 := by omega
  generalize hQ : (4294967296 * (a2 : Int) + (a1 : Int)) / (v1 : Int) = Q0
  generalize hR : (4294967296 * (a2 : Int) + (a1 : Int)) % (v1 : Int) = R0
  generalize 4294967296 * (a2 : Int) + (a1 : Int) = T0
  generalize (a2 : Int) * 4294967296 = T1
  have HQR := Lib.hid (And.intro hQ hR)
  clear hQ hR
  go_loop [9, 10] (fun dv lv => ∃ D Lf : Nat, dv = .int .u64 D ∧ lv = .int .u64 Lf ∧ D < 18446744073709551616 ∧ Lf < 4294967296 ∧ Hid (D * v1 + Lf = a1 + 4294967296 * a2) ∧ Hid (wv zs off q3 < (D + 1) * val ys)) (fun dv _ => (intOf dv).toNat)
  case atStart =>
    have dm := Nat.div_add_mod (4294967296 * a2 + a1) v1
    have hm := Nat.mod_lt (4294967296 * a2 + a1) hv1
    refine ⟨(4294967296 * a2 + a1) / v1, (4294967296 * a2 + a1) % v1, by rw [← HQR.out.1]; go_num, by rw [← HQR.out.2]; go_num, ?_, by omega, ?_, ?_⟩
    · exact Nat.lt_of_le_of_lt (Nat.div_le_self _ _) (by omega)
    · rw [Hid, Nat.mul_comm, dm, Nat.add_comm]
    · exact knuth_start HM.out.1 HM.out.2.1 HM.out.2.2.2.1 d0 (by rw [Nat.add_comm a1, Nat.add_mul, Nat.one_mul, Nat.mul_comm ((4294967296 * a2 + a1) / v1)]; omega)
  case round =>
    obtain ⟨D, Lf, rfl, rfl, hD9, hLf, Ht, Hq⟩ := hrel
    have hor := or_shift Lf a0 d0 hLf
    have Hor := Lib.hid hor
    clear hor
    by_cases hD : D < 4294967296
    · have g1 : decide ((4294967296 : Int) ≤ (D : Int)) = false := by rw [decide_eq_false_iff_not]; omega
      have p1 : (D : Int) * (v2 : Int) ≤ 18446744065119617025 := by have := (mul_bd hD b2 d0 d0).1; rw [← Int.natCast_mul]; omega
      have p0 : 0 ≤ (D : Int) * (v2 : Int) := by rw [← Int.natCast_mul]; omega
      by_cases ht : 4294967296 * Lf + a0 < D * v2
      · have t1 : bits .or .u64 ((Lf : Int) * 4294967296) (a0 : Int) < (D : Int) * (v2 : Int) := by rw [Hor.out, ← Int.natCast_mul]; omega
        have Hdec := Lib.hid (knuth_dec HM.out.1 HM.out.2.2.2.1 HM.out.2.1 Ht.out ht)
        obtain ⟨D', rfl⟩ : ∃ D', D = D' + 1 := ⟨D - 1, by
          rcases Nat.eq_zero_or_pos D with e | e
          · rw [e, Nat.zero_mul] at ht; omega
          · omega⟩
        have Ht' : Hid (D' * v1 + (Lf + v1) = a1 + 4294967296 * a2) := by have := Ht.out; rw [Nat.add_mul, Nat.one_mul] at this; rw [Hid]; omega
        rw [Int.natCast_add, Int.natCast_one] at p1 p0 t1
        clear g1
        have g1 : decide ((4294967296 : Int) ≤ (D' : Int) + 1) = false := by rw [decide_eq_false_iff_not]; omega
        clear ht hD
        by_cases hb : Lf + v1 < 4294967296
        · have hb' : decide ((4294967296 : Int) ≤ (Lf : Int) + (v1 : Int)) = false := by rw [decide_eq_false_iff_not]; omega
          have Hbb := Lib.hid hb
          clear hb
          go_wp2
          go_round
          case rel => exact ⟨D', Lf + v1, by go_num, by go_num, by omega, Hbb.out, Ht', Hdec⟩
          case measure => simp [intOf]
        · have hb' : decide ((4294967296 : Int) ≤ (Lf : Int) + (v1 : Int)) = true := by rw [decide_eq_true_iff]; omega
          have hD' : D' < 4294967296 := by
            have h1 := Ht'.out
            have h2 := HM.out.2.2.2.2.2
            have h3 := Nat.mul_le_mul_left 4294967296 h2
            rcases Nat.lt_or_ge D' 4294967296 with h4 | h4
            · exact h4
            · have := Nat.mul_le_mul_right v1 h4
              omega
          have HK := Lib.hid (knuth_ok HM.out.1 HM.out.2.1 HM.out.2.2.1 hv1 b2 Ht'.out hD' (.inr (Nat.le_of_not_lt hb)))
          go_wp2_with fail
          refine (subProduct_of g off c B q2 q3 d D' (some ad) zs ys W1 (by have := HE.out; omega) hrW hoff hz hl hW' hB hD').mono ?_
          rintro e w1 ⟨zs', b, rfl, hr1, ho1, hs1, hv1', hg1⟩
          have HV1 := Lib.hid hv1'
          have HS1 := Lib.hid (And.intro hs1 (And.intro ho1 (grown_trans hgW hg1)))
          clear hv1' hs1 ho1
          cases b
          · have HV2 := Lib.hid (show wv zs' off q3 + val ys * D' = wv zs off q3 by simpa using HV1.out)
            go_wp2
            go_ret
            exact digit_keep hD' hr1 HS1.out.2.1 HS1.out.1 HS1.out.2.2 Hdec.out HV2.out
          · have HV2 := Lib.hid (show wv zs' off q3 + val ys * D' = wv zs off q3 + 4294967296 ^ q3 * 1 by simpa using HV1.out)
            have hQ := wv_lt HS1.out.2.1 off q3
            have hD1 : 1 ≤ D' := by
              rcases Nat.eq_zero_or_pos D' with e | e
              · have := HV2.out; rw [e, Nat.mul_zero] at this; omega
              · exact e
            have HQ := Lib.hid hQ
            clear hQ
            go_wp2_with fail
            refine (addTo_any g off q3 c B q2 d (some ad) zs' ys w1 hr1 (by rw [HS1.out.1.1]; exact hoff) HS1.out.2.1 hl (hW'.grown hg1 (by have := hrW.lt; omega) hB) hB (by omega)).mono ?_
            rintro e w2 ⟨rfl, zs'', cy, hcy, hr2, ho2, hs2, hv2, hg2⟩
            have HV3 := Lib.hid hv2
            have hQ2 := wv_lt ho2 off q3
            have R := Lib.hid (digit_less (D := D') hD' hr2 ho2 HS1.out.1 hs2 HS1.out.2.2 hg2 hQ2 HQ.out hcy HK.out HV2.out HV3.out)
            clear hQ2 hv2 hs2
            go_wp2
            rw [show ((D' : Nat) : Int) - 1 = ((D' - 1 : Nat) : Int) by omega]
            go_ret
            exact R.out
      · have t1 : (D : Int) * (v2 : Int) ≤ bits .or .u64 ((Lf : Int) * 4294967296) (a0 : Int) := by rw [Hor.out, ← Int.natCast_mul]; omega
        have Hle := Lib.hid (Nat.le_of_not_lt ht)
        clear ht
        have HK := Lib.hid (knuth_ok HM.out.1 HM.out.2.1 HM.out.2.2.1 hv1 b2 Ht.out hD (.inl Hle.out))
        go_wp2_with fail
        refine (subProduct_of g off c B q2 q3 d D (some ad) zs ys W1 (by have := HE.out; omega) hrW hoff hz hl hW' hB hD).mono ?_
        rintro e w1 ⟨zs', b, rfl, hr1, ho1, hs1, hv1', hg1⟩
        have HV1 := Lib.hid hv1'
        have HS1 := Lib.hid (And.intro hs1 (And.intro ho1 (grown_trans hgW hg1)))
        clear hv1' hs1 ho1
        cases b
        · have HV2 := Lib.hid (show wv zs' off q3 + val ys * D = wv zs off q3 by simpa using HV1.out)
          go_wp2
          go_ret
          exact digit_keep hD hr1 HS1.out.2.1 HS1.out.1 HS1.out.2.2 Hq.out HV2.out
        · have HV2 := Lib.hid (show wv zs' off q3 + val ys * D = wv zs off q3 + 4294967296 ^ q3 * 1 by simpa using HV1.out)
          have hQ := wv_lt HS1.out.2.1 off q3
          have hD1 : 1 ≤ D := by
            rcases Nat.eq_zero_or_pos D with e | e
            · have := HV2.out; rw [e, Nat.mul_zero] at this; omega
            · exact e
          have HQ := Lib.hid hQ
          clear hQ
          go_wp2_with fail
          refine (addTo_any g off q3 c B q2 d (some ad) zs' ys w1 hr1 (by rw [HS1.out.1.1]; exact hoff) HS1.out.2.1 hl (hW'.grown hg1 (by have := hrW.lt; omega) hB) hB (by omega)).mono ?_
          rintro e w2 ⟨rfl, zs'', cy, hcy, hr2, ho2, hs2, hv2, hg2⟩
          have HV3 := Lib.hid hv2
          have hQ2 := wv_lt ho2 off q3
          have R := Lib.hid (digit_less (D := D) hD hr2 ho2 HS1.out.1 hs2 HS1.out.2.2 hg2 hQ2 HQ.out hcy HK.out HV2.out HV3.out)
          clear hQ2 hv2 hs2
          go_wp2
          rw [show ((D : Nat) : Int) - 1 = ((D - 1 : Nat) : Int) by omega]
          go_ret
          exact R.out
    · have g1 : decide ((4294967296 : Int) ≤ (D : Int)) = true := by rw [decide_eq_true_iff]; omega
      have Hdec : Hid (wv zs off q3 < D * val ys) := by
        refine Nat.lt_of_lt_of_le HM.out.2.2.2.2.1 ?_
        rw [Nat.mul_comm D]; exact Nat.mul_le_mul_left _ (by omega)
      obtain ⟨D', rfl⟩ : ∃ D', D = D' + 1 := ⟨D - 1, by omega⟩
      have Ht' : Hid (D' * v1 + (Lf + v1) = a1 + 4294967296 * a2) := by have := Ht.out; rw [Nat.add_mul, Nat.one_mul] at this; rw [Hid]; omega
      clear g1
      have g1 : decide ((4294967296 : Int) ≤ (D' : Int) + 1) = true := by rw [decide_eq_true_iff]; omega
      clear hD
      by_cases hb : Lf + v1 < 4294967296
      · have hb' : decide ((4294967296 : Int) ≤ (Lf : Int) + (v1 : Int)) = false := by rw [decide_eq_false_iff_not]; omega
        have Hbb := Lib.hid hb
        clear hb
        go_wp2
        go_round
        case rel => exact ⟨D', Lf + v1, by go_num, by go_num, by omega, Hbb.out, Ht', Hdec⟩
        case measure => simp [intOf]
      · have hb' : decide ((4294967296 : Int) ≤ (Lf : Int) + (v1 : Int)) = true := by rw [decide_eq_true_iff]; omega
        have hD' : D' < 4294967296 := by
          have h1 := Ht'.out
          have h2 := HM.out.2.2.2.2.2
          have h3 := Nat.mul_le_mul_left 4294967296 h2
          rcases Nat.lt_or_ge D' 4294967296 with h4 | h4
          · exact h4
          · have := Nat.mul_le_mul_right v1 h4
            omega
        have HK := Lib.hid (knuth_ok HM.out.1 HM.out.2.1 HM.out.2.2.1 hv1 b2 Ht'.out hD' (.inr (Nat.le_of_not_lt hb)))
        go_wp2_with fail
        refine (subProduct_of g off c B q2 q3 d D' (some ad) zs ys W1 (by have := HE.out; omega) hrW hoff hz hl hW' hB hD').mono ?_
        rintro e w1 ⟨zs', b, rfl, hr1, ho1, hs1, hv1', hg1⟩
        have HV1 := Lib.hid hv1'
        have HS1 := Lib.hid (And.intro hs1 (And.intro ho1 (grown_trans hgW hg1)))
        clear hv1' hs1 ho1
        cases b
        · have HV2 := Lib.hid (show wv zs' off q3 + val ys * D' = wv zs off q3 by simpa using HV1.out)
          go_wp2
          go_ret
          exact digit_keep hD' hr1 HS1.out.2.1 HS1.out.1 HS1.out.2.2 Hdec.out HV2.out
        · have HV2 := Lib.hid (show wv zs' off q3 + val ys * D' = wv zs off q3 + 4294967296 ^ q3 * 1 by simpa using HV1.out)
          have hQ := wv_lt HS1.out.2.1 off q3
          have hD1 : 1 ≤ D' := by
            rcases Nat.eq_zero_or_pos D' with e | e
            · have := HV2.out; rw [e, Nat.mul_zero] at this; omega
            · exact e
          have HQ := Lib.hid hQ
          clear hQ
          go_wp2_with fail
          refine (addTo_any g off q3 c B q2 d (some ad) zs' ys w1 hr1 (by rw [HS1.out.1.1]; exact hoff) HS1.out.2.1 hl (hW'.grown hg1 (by have := hrW.lt; omega) hB) hB (by omega)).mono ?_
          rintro e w2 ⟨rfl, zs'', cy, hcy, hr2, ho2, hs2, hv2, hg2⟩
          have HV3 := Lib.hid hv2
          have hQ2 := wv_lt ho2 off q3
          have R := Lib.hid (digit_less (D := D') hD' hr2 ho2 HS1.out.1 hs2 HS1.out.2.2 hg2 hQ2 HQ.out hcy HK.out HV2.out HV3.out)
          clear hQ2 hv2 hs2
          go_wp2
          rw [show ((D' : Nat) : Int) - 1 = ((D' - 1 : Nat) : Int) by omega]
          go_ret
          exact R.out

end Go.Proofs.Ytalgcppogjpilaa
