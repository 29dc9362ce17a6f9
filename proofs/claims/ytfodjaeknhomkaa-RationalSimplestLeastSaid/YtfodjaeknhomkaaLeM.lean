/-
  RationalSimplestLeast: what Simplest hands back for two small fractions, in integers.
-/
import Derived.WalkKit
import Derived.WalkSpells
import Derived.WalkLawsBesides
import Derived.Below
import Derived.KernelRfl
import Derived.Deep.LoopGhost
import Derived.IntWalk
import Derived.Lib.Hide
import Derived.Test.YtfodjaeknhomkaaProg
import Derived.Test.YtfodjaeknhomkaaRatSv
import Derived.Test.YtfodjaeknhomkaaRatLb
namespace Go.Proofs.Ytfodjaeknhomkaa
open Go.RowKit

theorem w64 {z : Int} (h : -1000000 ≤ z ∧ z ≤ 1000000) : wrap64 z = z := by unfold wrap64; omega
theorem mul_small {k q : Int} (h1 : -61 ≤ k) (h2 : k ≤ 61) (h3 : 1 ≤ q) (h4 : q ≤ 30) : -1000000 ≤ k * q ∧ k * q ≤ 1000000 := by
  have a : k * q ≤ 61 * q := Int.mul_le_mul_of_nonneg_right h2 (by omega)
  have b : -61 * q ≤ k * q := Int.mul_le_mul_of_nonneg_right h1 (by omega)
  omega
set_option maxRecDepth 20000 in
set_option maxHeartbeats 1000000 in
theorem closest_run (p q r s num : Int) (w : World) (hq : 1 ≤ q ∧ q ≤ 30) (hs : 1 ≤ s ∧ s ≤ 30) (hn : -100000 ≤ num ∧ num ≤ 100000) (hC : ∀ k : Int, p < k * q → k * s < r → max num (-num) ≤ max k (-k)) :
    Calls Try.prog 8 #[.int .i64 p, .int .i64 q, .int .i64 r, .int .i64 s, .int .i64 num] w fun e w' => e = .returned (.bool true) ∧ Below w.heap.size w w' := by
  have HQ := Lib.hid (And.intro hq (And.intro hs hn))
  have HC := Lib.hid hC
  have HB : Hid (Below w.heap.size w w) := Lib.hid (Below.refl _ _)
  have HN := Lib.hid (w64 (z := -num) (by omega))
  clear hq hs hn hC
  go_enter Try.func8, Try.ntmps8
  go_wp2
  go_loopg [11] 121 (fun gg s11 wr => ∃ k : Int, s11 = .int .i64 k ∧ Hid (-60 ≤ k ∧ k ≤ 61) ∧ (61 - k).toNat = gg ∧ wr = w)
  case atStart => exact ⟨-60, rfl, Lib.hid ⟨by omega, by omega⟩, rfl, rfl⟩
  case round =>
    obtain ⟨k, rfl, HK, rfl, rfl⟩ := hrel
    by_cases hk : k ≤ 60
    · have t0 : decide (k ≤ 60) = true := decide_eq_true hk
      have W1 := Lib.hid (w64 (mul_small (q := q) (by have := HK.out; omega : -61 ≤ k) (by omega) HQ.out.1.1 HQ.out.1.2))
      have W2 := Lib.hid (w64 (mul_small (q := s) (by have := HK.out; omega : -61 ≤ k) (by omega) HQ.out.2.1.1 HQ.out.2.1.2))
      have W3 := Lib.hid (w64 (z := -k) (by have := HK.out; omega))
      have HK1 := Lib.hid hk
      clear hk
      by_cases a : p < k * q
      · have ta : decide (p < wrap64 (k * q)) = true := by rw [W1.out]; exact decide_eq_true a
        have HA := Lib.hid a
        clear a
        by_cases b : k * s < r
        · have tb : decide (wrap64 (k * s) < r) = true := by rw [W2.out]; exact decide_eq_true b
          have HX := Lib.hid (And.intro (HC.out k HA.out b) (And.intro W3.out HN.out))
          clear b
          go_wp2
          all_goals first
            | (go_roundg (61 - (k + 1)).toNat
               case measure => have := HK.out; have := HK1.out; omega
               case rel => exact ⟨k + 1, by rw [w64 (by have := HK.out; have := HK1.out; omega)], Lib.hid ⟨by have := HK.out; omega, by have := HK1.out; omega⟩, rfl, rfl⟩)
            | (exfalso
               have x1 := HX.out.1
               have x2 := HX.out.2.1
               have x3 := HX.out.2.2
               omega)
        · have tb : decide (wrap64 (k * s) < r) = false := by rw [W2.out]; exact decide_eq_false b
          clear b
          go_wp2
          go_roundg (61 - (k + 1)).toNat
          case measure => have := HK.out; have := HK1.out; omega
          case rel => exact ⟨k + 1, by rw [w64 (by have := HK.out; have := HK1.out; omega)], Lib.hid ⟨by have := HK.out; omega, by have := HK1.out; omega⟩, rfl, rfl⟩
      · have ta : decide (p < wrap64 (k * q)) = false := by rw [W1.out]; exact decide_eq_false a
        clear a
        go_wp2
        go_roundg (61 - (k + 1)).toNat
        case measure => have := HK.out; have := HK1.out; omega
        case rel => exact ⟨k + 1, by rw [w64 (by have := HK.out; have := HK1.out; omega)], Lib.hid ⟨by have := HK.out; omega, by have := HK1.out; omega⟩, rfl, rfl⟩
    · have t0 : decide (k ≤ 60) = false := decide_eq_false hk
      clear hk
      go_wp2
      go_ret
      exact ⟨rfl, HB.out⟩
end Go.Proofs.Ytfodjaeknhomkaa

namespace Go.Proofs.Ytfodjaeknhomkaa
open Go.RowKit

theorem dv_cross (a b : Int) (hb : 0 < b) : (Rat.divInt a b).num * b = a * (Rat.divInt a b).den := by
  have h : Rat.divInt (Rat.divInt a b).num (Rat.divInt a b).den = Rat.divInt a b := Rat.num_divInt_den _
  have d := dn_pos (Rat.divInt a b)
  exact (Rat.divInt_eq_divInt_iff (by omega) (by omega)).1 h
theorem lt_left {a b : Int} (hb : 0 < b) (z : Rat) : Lt (Rat.divInt a b) z ↔ a * z.den < z.num * b := by
  have c := dv_cross a b hb
  have d := dn_pos (Rat.divInt a b)
  unfold Lt
  generalize (Rat.divInt a b).num = x at *
  generalize ((Rat.divInt a b).den : Int) = y at *
  generalize (z.den : Int) = u at *
  generalize z.num = v at *
  constructor
  · intro h
    have k : b * (x * u) < b * (v * y) := Int.mul_lt_mul_of_pos_left h hb
    refine Int.lt_of_mul_lt_mul_left (a := y) ?_ (by omega)
    have e1 : b * (x * u) = y * (a * u) := by grind
    have e2 : b * (v * y) = y * (v * b) := by grind
    omega
  · intro h
    have k : y * (a * u) < y * (v * b) := Int.mul_lt_mul_of_pos_left h d
    refine Int.lt_of_mul_lt_mul_left (a := b) ?_ (by omega)
    have e1 : b * (x * u) = y * (a * u) := by grind
    have e2 : b * (v * y) = y * (v * b) := by grind
    omega
theorem lt_right {a b : Int} (hb : 0 < b) (z : Rat) : Lt z (Rat.divInt a b) ↔ z.num * b < a * z.den := by
  have c := dv_cross a b hb
  have d := dn_pos (Rat.divInt a b)
  unfold Lt
  generalize (Rat.divInt a b).num = x at *
  generalize ((Rat.divInt a b).den : Int) = y at *
  generalize (z.den : Int) = u at *
  generalize z.num = v at *
  constructor
  · intro h
    have k : b * (v * y) < b * (x * u) := Int.mul_lt_mul_of_pos_left h hb
    refine Int.lt_of_mul_lt_mul_left (a := y) ?_ (by omega)
    have e1 : b * (x * u) = y * (a * u) := by grind
    have e2 : b * (v * y) = y * (v * b) := by grind
    omega
  · intro h
    have k : y * (v * b) < y * (a * u) := Int.mul_lt_mul_of_pos_left h d
    refine Int.lt_of_mul_lt_mul_left (a := b) ?_ (by omega)
    have e1 : b * (x * u) = y * (a * u) := by grind
    have e2 : b * (v * y) = y * (v * b) := by grind
    omega
theorem small_bd {a b : Int} (ha : a.natAbs < 256) (hb : 0 < b) (hb2 : b.natAbs < 256) : Bd 4096 (Rat.divInt a b) :=
  Bd.mono (Bd.divInt (e := 8) (Int.ne_of_gt hb) (by rw [show pw 8 = 256 from by decide]; exact ha) (by rw [show pw 8 = 256 from by decide]; exact hb2)) (by decide)
theorem of_w (n d : Int) (w : World) (hd : 0 < d) (h1 : n.natAbs < 4294967296) (h2 : d.natAbs < 4294967296) : Calls Try.prog 6 #[.int .i64 n, .int .i64 d] w (RetW (Rat.divInt n d) w) :=
  (of_q n d (Rat.divInt n d).num ((Rat.divInt n d).den : Int) w (by omega) (by omega) (by omega) (by omega) (if_neg (by omega)) (if_neg (by omega))).mono fun _ _ ⟨q, k1, hi, o1, o2, hb⟩ => ⟨q, k1, hi, by rw [o1, o2]; exact rv_of _, hb⟩
theorem small_z {neg : Bool} {A : Option Addr} {n c : Nat} {xs : List Nat} {w : World} (h : Sl w w.heap.size A n c xs) {z : Int} (ho : ov neg xs = some z) (h1 : -9223372036854775808 ≤ z) (h2 : z ≤ 9223372036854775807) :
    Calls Try.prog 7 #[.agg #[.bool neg, .slice A n c]] w fun e w' => e = .returned (.tuple #[.int .i64 z, .bool true]) ∧ Below w.heap.size w w' := by
  have C := small_ov (neg := neg) h
  have hb : smB (some z) = true := decide_eq_true ⟨h1, h2⟩
  rw [ho, smZ, hb, if_pos rfl, Option.getD_some] at C
  exact C
/-- What lies between p / q and r / s with the least terms. -/
structure Got (p q r s num den : Int) : Prop where
  d1 : 1 ≤ den
  d2 : den ≤ 60
  n1 : -120 ≤ num
  n2 : num ≤ 120
  lo : p * den < num * q
  hi : num * s < r * den
  least : ∀ a b : Int, 0 < b → p * b < a * q → a * s < r * b → den ≤ b ∧ max num (-num) ≤ max a (-a)
theorem got (p q r s : Int) (hp : -60 ≤ p ∧ p ≤ 60) (hq : 1 ≤ q ∧ q ≤ 30) (hr : -60 ≤ r ∧ r ≤ 60) (hs : 1 ≤ s ∧ s ≤ 30) (h : p * s < r * q) :
    ∃ z : Rat, Simp (Rat.divInt p q) (Rat.divInt r s) z ∧ Got p q r s z.num z.den := by
  have q0 : 0 < q := by omega
  have s0 : 0 < s := by omega
  have qs : 0 < q + s := by omega
  have hxy : Lt (Rat.divInt p q) (Rat.divInt r s) := by
    rw [lt_left q0]
    have c := dv_cross r s s0
    have d := dn_pos (Rat.divInt r s)
    generalize (Rat.divInt r s).num = x at *
    generalize ((Rat.divInt r s).den : Int) = y at *
    refine Int.lt_of_mul_lt_mul_left (a := s) ?_ (by omega)
    have k2 : y * (p * s) < y * (r * q) := Int.mul_lt_mul_of_pos_left h d
    have e1 : s * (p * y) = y * (p * s) := by grind
    have e2 : s * (x * q) = y * (r * q) := by grind
    omega
  have t1 : Lt (Rat.divInt p q) (Rat.divInt (p + r) (q + s)) := by
    rw [lt_left q0]
    have c := dv_cross (p + r) (q + s) qs
    have d := dn_pos (Rat.divInt (p + r) (q + s))
    generalize (Rat.divInt (p + r) (q + s)).num = x at *
    generalize ((Rat.divInt (p + r) (q + s)).den : Int) = y at *
    refine Int.lt_of_mul_lt_mul_left (a := q + s) ?_ (by omega)
    have k2 : y * (p * s) < y * (r * q) := Int.mul_lt_mul_of_pos_left h d
    have e1 : (q + s) * (p * y) = y * (p * q) + y * (p * s) := by grind
    have e2 : (q + s) * (x * q) = y * (p * q) + y * (r * q) := by grind
    omega
  have t2 : Lt (Rat.divInt (p + r) (q + s)) (Rat.divInt r s) := by
    rw [lt_right s0]
    have c := dv_cross (p + r) (q + s) qs
    have d := dn_pos (Rat.divInt (p + r) (q + s))
    generalize (Rat.divInt (p + r) (q + s)).num = x at *
    generalize ((Rat.divInt (p + r) (q + s)).den : Int) = y at *
    refine Int.lt_of_mul_lt_mul_left (a := q + s) ?_ (by omega)
    have k2 : y * (p * s) < y * (r * q) := Int.mul_lt_mul_of_pos_left h d
    have e1 : (q + s) * (x * s) = y * (p * s) + y * (r * s) := by grind
    have e2 : (q + s) * (r * y) = y * (r * q) + y * (r * s) := by grind
    omega
  have bt := divInt_le (p + r) (q + s) (by omega)
  obtain ⟨z, b, sm, _⟩ := simp_pair hxy t1 t2 (small_bd (by omega) q0 (by omega)) (small_bd (by omega) s0 (by omega)) (small_bd (by omega) qs (by omega))
  have l := b.least _ t1 t2
  have dz := dn_pos z
  refine ⟨z, sm, by omega, by omega, by omega, by omega, (lt_left q0 z).1 b.lo, (lt_right s0 z).1 b.hi, fun u v v0 h1 h2 => ?_⟩
  have e := dv_cross u v v0
  have dy := dn_pos (Rat.divInt u v)
  have le := divInt_le u v (by omega)
  have k := b.least (Rat.divInt u v) ?_ ?_
  · omega
  · rw [lt_left q0]
    generalize (Rat.divInt u v).num = x at *
    generalize ((Rat.divInt u v).den : Int) = y at *
    refine Int.lt_of_mul_lt_mul_left (a := v) ?_ (by omega)
    have k2 : y * (p * v) < y * (u * q) := Int.mul_lt_mul_of_pos_left h1 dy
    have e1 : v * (p * y) = y * (p * v) := by grind
    have e2 : v * (x * q) = y * (u * q) := by grind
    omega
  · rw [lt_right s0]
    generalize (Rat.divInt u v).num = x at *
    generalize ((Rat.divInt u v).den : Int) = y at *
    refine Int.lt_of_mul_lt_mul_left (a := v) ?_ (by omega)
    have k2 : y * (u * s) < y * (r * v) := Int.mul_lt_mul_of_pos_left h2 dy
    have e1 : v * (x * s) = y * (u * s) := by grind
    have e2 : v * (r * y) = y * (r * v) := by grind
    omega
end Go.Proofs.Ytfodjaeknhomkaa
