/-
  RationalSimplestLeast: its walk.
-/
import Derived.Test.YtfodjaeknhomkaaLeM
import Derived.Test.YtfodjaeknhomkaaRatY
namespace Go.Proofs.Ytfodjaeknhomkaa
open Go.RowKit

theorem q_top {r k s : Int} (h : 0 ≤ r * k - 1) (hs : s ≠ 0) : (r * k - 1).tdiv s * s < r * k := by
  have e : (r * k - 1).tdiv s = (r * k - 1) / s := Int.tdiv_eq_ediv_of_nonneg h
  rw [e]
  have := Int.ediv_mul_le (r * k - 1) (b := s) hs
  omega
theorem q_bot {r k s : Int} (h : r * k - 1 < 0) (hs : 0 < s) : -((s - r * k).tdiv s) * s < r * k := by
  have e : (s - r * k).tdiv s = (s - r * k) / s := Int.tdiv_eq_ediv_of_nonneg (by omega)
  rw [e]
  have a := Int.lt_ediv_add_one_mul_self (s - r * k) hs
  rw [Int.add_mul, Int.one_mul] at a
  rw [Int.neg_mul]
  omega
theorem q_abs {a s : Int} : -(max a (-a)) ≤ a.tdiv s ∧ a.tdiv s ≤ max a (-a) := by
  have h : (a.tdiv s).natAbs ≤ a.natAbs := by rw [Int.natAbs_tdiv]; exact Nat.div_le_self _ _
  omega
theorem m_bd {a b A B : Int} (h1 : -A ≤ a) (h2 : a ≤ A) (h3 : -B ≤ b) (h4 : b ≤ B) : -(A * B) ≤ a * b ∧ a * b ≤ A * B := by
  have : (a * b).natAbs ≤ A.natAbs * B.natAbs := by rw [Int.natAbs_mul]; exact Nat.mul_le_mul (by omega) (by omega)
  have e : ((A.natAbs * B.natAbs : Nat) : Int) = A * B := by rw [Int.natCast_mul]; rw [show (A.natAbs : Int) = A by omega, show (B.natAbs : Int) = B by omega]
  omega

set_option linter.unusedSimpArgs false in
set_option maxRecDepth 20000 in
set_option maxHeartbeats 2000000 in
theorem least_no (n d m f p q r s : Int) (w : World) (hp : (wrap64 n).tmod 61 = p ∧ wrap64 (1 + (wrap64 d).tmod 30) = q ∧ (wrap64 m).tmod 61 = r ∧ wrap64 (1 + (wrap64 f).tmod 30) = s) (hb : (-60 ≤ p ∧ p ≤ 60) ∧ (1 ≤ q ∧ q ≤ 30) ∧ (-60 ≤ r ∧ r ≤ 60) ∧ (1 ≤ s ∧ s ≤ 30)) (hw : wrap64 (p * s) = p * s ∧ wrap64 (r * q) = r * q) (h : r * q ≤ p * s) :
    Calls Try.prog 3 #[.int .i8 n, .int .u8 d, .int .i8 m, .int .u8 f] w (fun e w' => e = .returned (.bool true) ∧ Below w.heap.size w w') := by
  have HP := hI hp
  have HB := hI hb
  have HW := hI hw
  have HL := hI h
  clear hp hb hw h
  have B_0 : Hid (Below w.heap.size w w) := hI (Below.refl _ _)
  go_enter Try.func3, Try.ntmps3
  go_wp2_with fail
  refine (sane w).mono ?_
  rintro e w1 ⟨rfl, hb⟩
  have B_1 := hI (below_chain B_0.out B_0.out.size hb)
  clear hb B_0
  go_upto_region 3 with fail
  rw [HP.out.1, HP.out.2.1, HP.out.2.2.1, HP.out.2.2.2]
  have t0 : decide (wrap64 (r * q) ≤ wrap64 (p * s)) = true := by rw [HW.out.1, HW.out.2]; exact decide_eq_true HL.out
  go_wp2_with fail
  go_ret
  exact ⟨rfl, B_1.out⟩

set_option linter.unusedSimpArgs false in
set_option maxRecDepth 20000 in
set_option maxHeartbeats 2000000 in
theorem least_yes (n d m f p q r s : Int) (w : World) (hp : (wrap64 n).tmod 61 = p ∧ wrap64 (1 + (wrap64 d).tmod 30) = q ∧ (wrap64 m).tmod 61 = r ∧ wrap64 (1 + (wrap64 f).tmod 30) = s) (hb : (-60 ≤ p ∧ p ≤ 60) ∧ (1 ≤ q ∧ q ≤ 30) ∧ (-60 ≤ r ∧ r ≤ 60) ∧ (1 ≤ s ∧ s ≤ 30)) (hw : wrap64 (p * s) = p * s ∧ wrap64 (r * q) = r * q) (z : Rat) (h : p * s < r * q) (hS : Simp (Rat.divInt p q) (Rat.divInt r s) z) (hG : Got p q r s z.num z.den) :
    Calls Try.prog 3 #[.int .i8 n, .int .u8 d, .int .i8 m, .int .u8 f] w (fun e w' => e = .returned (.bool true) ∧ Below w.heap.size w w') := by
  have HP := hI hp
  have HB := hI hb
  have HW := hI hw
  have HL := hI h
  have HS := hI hS
  have HG := hI hG
  clear hp hb hw h hS hG
  have B_0 : Hid (Below w.heap.size w w) := hI (Below.refl _ _)
  go_enter Try.func3, Try.ntmps3
  go_wp2_with fail
  refine (sane w).mono ?_
  rintro e w1 ⟨rfl, hb⟩
  have B_1 := hI (below_chain B_0.out B_0.out.size hb)
  clear hb B_0
  go_upto_region 3 with fail
  rw [HP.out.1, HP.out.2.1, HP.out.2.2.1, HP.out.2.2.2]
  have t0 : decide (wrap64 (r * q) ≤ wrap64 (p * s)) = false := by rw [HW.out.1, HW.out.2]; exact decide_eq_false (by have := HL.out; omega)
  go_wp2_with fail
  clear t0
  refine (of_w p q w1 (by have := HB.out; omega) (by have := HB.out; omega) (by have := HB.out; omega)).mono ?_
  rintro e w2 ⟨tp0, rfl, hi, hv, hb⟩
  have B_2 := hI (below_chain B_1.out B_1.out.size hb)
  have Ip0_3 : Hid (tp0.In w2) := hI hi
  clear hb B_1 hi
  have Vp0 := hI hv
  clear hv
  go_wp2_with fail
  refine (of_w r s w2 (by have := HB.out; omega) (by have := HB.out; omega) (by have := HB.out; omega)).mono ?_
  rintro e w4 ⟨tr0, rfl, hi, hv, hb⟩
  have B_4 := hI (below_chain B_2.out B_2.out.size hb)
  have Ip0_5 := hI (Ip0_3.out.on hb)
  have Ir0_6 : Hid (tr0.In w4) := hI hi
  clear hb B_2 Ip0_3 hi
  have Vr0 := hI hv
  clear hv
  go_wp2_with fail
  refine (HS.out _ _ w4 Ip0_5.out Ir0_6.out Vp0.out Vr0.out).mono ?_
  rintro e w7 ⟨tx0, rfl, hi, hv, hb⟩
  have B_7 := hI (below_chain B_4.out B_4.out.size hb)
  have Ip0_8 := hI (Ip0_5.out.on hb)
  have Ir0_9 := hI (Ir0_6.out.on hb)
  have Ix0_10 : Hid (tx0.In w7) := hI hi
  clear hb B_4 Ip0_5 Ir0_6 hi
  have Vx0 := hI hv
  clear hv
  clear Ip0_8 Ir0_9
  go_wp2_with fail
  generalize hW : World.alloc w7 _ = W11
  have hn := below_new w7 (.cells #[.bool tx0.g, .slice tx0.A tx0.n tx0.c, .bool tx0.gd, .slice tx0.Ad tx0.nd tx0.cd] 28)
  rw [hW] at hn
  have hx : Rb W11 w7.heap.size tx0 := by rw [← hW]; exact Rb.new (q := tx0) Ix0_10.out
  have B_11 := hI (below_chain B_7.out B_7.out.size hn)
  generalize hbb : w7.heap.size = b1 at *
  clear hbb
  have Xx_12 : Hid (Rb W11 b1 tx0) := hI hx
  clear hn hx hW B_7 Ix0_10
  obtain ⟨kx0, kx1, kx2, kx3⟩ := Xx_12.out.cs
  have lx := Xx_12.out.lt
  go_wp2_with fail
  refine (small_z Xx_12.out.sl.1 (rv_some Vx0.out).1 (by have := HG.out.n1; have := HG.out.n2; have := HG.out.d1; have := HG.out.d2; omega) (by have := HG.out.n1; have := HG.out.n2; have := HG.out.d1; have := HG.out.d2; omega)).mono ?_
  clear kx0 kx1 kx2 kx3 lx
  rintro e w13 ⟨rfl, hb⟩
  have B_13 := hI (below_chain B_11.out B_11.out.size hb)
  have Xx_14 := hI (Xx_12.out.on hb)
  clear hb B_11 Xx_12
  obtain ⟨kx0, kx1, kx2, kx3⟩ := Xx_14.out.cs
  have lx := Xx_14.out.lt
  go_wp2_with fail
  refine (small_z Xx_14.out.sl.2 (rv_some Vx0.out).2 (by have := HG.out.n1; have := HG.out.n2; have := HG.out.d1; have := HG.out.d2; omega) (by have := HG.out.n1; have := HG.out.n2; have := HG.out.d1; have := HG.out.d2; omega)).mono ?_
  clear kx0 kx1 kx2 kx3 lx
  rintro e w15 ⟨rfl, hb⟩
  have B_15 := hI (below_chain B_13.out B_13.out.size hb)
  have Xx_16 := hI (Xx_14.out.on hb)
  clear hb B_13 Xx_14
  clear HS Vx0
  generalize z.num = num at *
  generalize (z.den : Int) = den at *
  have g1 : decide (den < 1) = false := decide_eq_false (by have := HG.out.d1; omega)
  have g2 : decide (1000 < den) = false := decide_eq_false (by have := HG.out.d2; omega)
  have g3 : decide (num < -100000) = false := decide_eq_false (by have := HG.out.n1; omega)
  have g4 : decide (100000 < num) = false := decide_eq_false (by have := HG.out.n2; omega)
  have W1 : Hid (wrap64 (p * den) = p * den ∧ wrap64 (num * q) = num * q ∧ wrap64 (num * s) = num * s ∧ wrap64 (r * den) = r * den) := hI (by have b := HB.out; have G := HG.out; refine ⟨w64 ?_, w64 ?_, w64 ?_, w64 ?_⟩; (have := m_bd (A := 60) (B := 60) (a := p) (b := den) (by omega) (by omega) (by have := G.d1; omega) G.d2; omega); (have := m_bd (A := 120) (B := 30) (a := num) (b := q) (by have := G.n1; omega) G.n2 (by omega) (by omega); omega); (have := m_bd (A := 120) (B := 30) (a := num) (b := s) (by have := G.n1; omega) G.n2 (by omega) (by omega); omega); (have := m_bd (A := 60) (B := 60) (a := r) (b := den) (by omega) (by omega) (by have := G.d1; omega) G.d2; omega))
  have g5 : decide (wrap64 (num * q) ≤ wrap64 (p * den)) = false := by rw [W1.out.1, W1.out.2.1]; exact decide_eq_false (by have := HG.out.lo; omega)
  have g6 : decide (wrap64 (r * den) ≤ wrap64 (num * s)) = false := by rw [W1.out.2.2.1, W1.out.2.2.2]; exact decide_eq_false (by have := HG.out.hi; omega)
  go_wp2
  clear g1 g2 g3 g4 g5 g6
  go_loopg [20, 21] 60 (fun gg s20 s21 wr => ∃ k : Int, s20 = .int .i64 k ∧ Hid (1 ≤ k ∧ k ≤ den) ∧ (den - k).toNat ≤ gg ∧ wr = w15)
  case atStart => exact ⟨1, rfl, hI ⟨by omega, by have := HG.out.d1; omega⟩, by have := HG.out.d2; omega, rfl⟩
  case round =>
    obtain ⟨k, rfl, HK, hgg, rfl⟩ := hrel
    have HGG := hI hgg
    clear hgg
    by_cases hk : k < den
    · have t0 : decide (k < den) = true := decide_eq_true hk
      have HK1 := hI hk
      clear hk
      have s0 : s ≠ 0 := by have := HB.out; omega
      have M1 := hI (m_bd (A := 60) (B := 60) (a := r) (b := k) (by have := HB.out; omega) (by have := HB.out; omega) (by have := HK.out; omega) (by have := HK1.out; have := HG.out.d2; omega))
      have M2 := hI (m_bd (A := 60) (B := 60) (a := p) (b := k) (by have := HB.out; omega) (by have := HB.out; omega) (by have := HK.out; omega) (by have := HK1.out; have := HG.out.d2; omega))
      have X1 := hI (w64 (z := r * k) (by have := M1.out; omega))
      have X2 := hI (w64 (z := r * k - 1) (by have := M1.out; omega))
      have X3 := hI (w64 (z := p * k) (by have := M2.out; omega))
      have X4 := hI (w64 (z := s - r * k) (by have := M1.out; have := HB.out; omega))
      have NT : ∀ T : Int, T * s < r * k → ¬ p * k < T * q := fun T h1 h2 => by
        have := (HG.out.least T k (by have := HK.out; omega) h2 h1).1
        have := HK1.out
        omega
      have NT' := hI NT
      clear NT
      by_cases hneg : r * k - 1 < 0
      · have t1 : decide (wrap64 (wrap64 (r * k) - 1) < 0) = true := by rw [X1.out, X2.out]; exact decide_eq_true hneg
        have Q := hI (q_abs (a := s - r * k) (s := s))
        have QB := hI (q_bot hneg (s := s) (by have := HB.out; omega))
        have TT : Hid (wrap64 (-wrap64 ((wrap64 (s - wrap64 (r * k))).tdiv s)) = -((s - r * k).tdiv s)) := hI (by
          rw [X1.out, X4.out, w64 (z := (s - r * k).tdiv s) (by have := Q.out; have := M1.out; have := HB.out; omega), w64 (by have := Q.out; have := M1.out; have := HB.out; omega)])
        have TQ : Hid (-3700 ≤ -((s - r * k).tdiv s) ∧ -((s - r * k).tdiv s) ≤ 3700) := hI (by have := Q.out; have := M1.out; have := HB.out; omega)
        clear hneg Q
        go_upto_region 16 with fail
        rw [TT.out]
        clear TT t1
        generalize -((s - r * k).tdiv s) = T at *
        have M3 := hI (m_bd (A := 3700) (B := 30) (a := T) (b := q) TQ.out.1 TQ.out.2 (by have := HB.out; omega) (by have := HB.out; omega))
        have t2 : decide (wrap64 (p * k) < wrap64 (T * q)) = false := by
          rw [X3.out, w64 (by have := M3.out; omega)]
          exact decide_eq_false (NT'.out T QB.out)
        go_wp2
        go_roundg (den - (k + 1)).toNat
        case measure => have := HGG.out; have := HK1.out; omega
        case rel => exact ⟨k + 1, by rw [w64 (by have := HK.out; have := HK1.out; have := HG.out.d2; omega)], hI ⟨by have := HK.out; omega, by have := HK1.out; omega⟩, Nat.le_refl _, rfl⟩
      · have t1 : decide (wrap64 (wrap64 (r * k) - 1) < 0) = false := by rw [X1.out, X2.out]; exact decide_eq_false hneg
        have Q := hI (q_abs (a := r * k - 1) (s := s))
        have QB := hI (q_top (r := r) (k := k) (s := s) (by omega) (by have := HB.out; omega))
        have TT : Hid (wrap64 ((wrap64 (wrap64 (r * k) - 1)).tdiv s) = (r * k - 1).tdiv s) := hI (by
          rw [X1.out, X2.out, w64 (z := (r * k - 1).tdiv s) (by have := Q.out; have := M1.out; have := HB.out; omega)])
        have TQ : Hid (-3700 ≤ (r * k - 1).tdiv s ∧ (r * k - 1).tdiv s ≤ 3700) := hI (by have := Q.out; have := M1.out; have := HB.out; omega)
        clear hneg Q
        go_upto_region 16 with fail
        rw [TT.out]
        clear TT t1
        generalize (r * k - 1).tdiv s = T at *
        have M3 := hI (m_bd (A := 3700) (B := 30) (a := T) (b := q) TQ.out.1 TQ.out.2 (by have := HB.out; omega) (by have := HB.out; omega))
        have t2 : decide (wrap64 (p * k) < wrap64 (T * q)) = false := by
          rw [X3.out, w64 (by have := M3.out; omega)]
          exact decide_eq_false (NT'.out T QB.out)
        go_wp2
        go_roundg (den - (k + 1)).toNat
        case measure => have := HGG.out; have := HK1.out; omega
        case rel => exact ⟨k + 1, by rw [w64 (by have := HK.out; have := HK1.out; have := HG.out.d2; omega)], hI ⟨by have := HK.out; omega, by have := HK1.out; omega⟩, Nat.le_refl _, rfl⟩
    · have t0 : decide (k < den) = false := decide_eq_false hk
      clear hk
      by_cases h1 : 1 < den
      · have t1 : decide (1 < den) = true := decide_eq_true h1
        clear h1
        go_wp2_with fail
        go_ret
        exact ⟨rfl, B_15.out⟩
      · have t1 : decide (1 < den) = false := decide_eq_false h1
        have HC : ∀ k : Int, p < k * q → k * s < r → max num (-num) ≤ max k (-k) := fun k a b => by
          exact (HG.out.least k 1 (by decide) (by rw [Int.mul_one]; exact a) (by rw [Int.mul_one]; exact b)).2
        have HC' := hI HC
        clear h1 HC
        go_wp2_with fail
        refine (closest_run p q r s num _ HB.out.2.1 HB.out.2.2.2 (by have := HG.out.n1; have := HG.out.n2; omega) HC'.out).mono ?_
        rintro e w99 ⟨rfl, hb⟩
        have B99 := hI (below_chain B_15.out B_15.out.size hb)
        clear hb
        go_wp2_with fail
        go_ret
        exact ⟨rfl, B99.out⟩

end Go.Proofs.Ytfodjaeknhomkaa