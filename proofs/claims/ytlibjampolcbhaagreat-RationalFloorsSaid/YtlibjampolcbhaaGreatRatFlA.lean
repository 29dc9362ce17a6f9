/-
  Stage 2: RationalFloors: the arithmetic behind its walk, and the law for any rational and any number of bits.
-/
import Derived.Test.YtlibjampolcbhaaGreatRatFl
import Derived.Test.YtlibjampolcbhaaGreatRatOr
namespace Go.Proofs.YtlibjampolcbhaaGreat
open Go.RowKit

theorem pw_zero : pw 0 = 1 := rfl
theorem pw_succ_lt (k : Nat) : pw k < pw (k + 1) := by
  rw [pw_add]
  have := pw_pos k
  have h : pw 1 = 2 := rfl
  rw [h]; omega
theorem shf_one {m : Int} (h : 0 ≤ m) : shf 1 m = ((pw m.toNat : Nat) : Int) := by unfold shf; rw [if_pos h, Int.one_mul]
theorem floor_num {q : Rat} {A B z : Int} (hB : 0 < B) (hq : q = Rat.divInt A B) (hz : A / B = z) : z * q.den ≤ q.num ∧ q.num < (z + 1) * q.den := by
  have m := mk_num A B (by omega)
  rw [Int.sign_eq_one_of_pos hB, Int.one_mul, ← hq] at m
  have hg : 0 < gcdZ A B := by
    have := m.2.2.2.2
    unfold gcdZ at *
    omega
  have e1 := Int.ediv_mul_cancel m.1
  have e2 := Int.ediv_mul_cancel m.2.1
  rw [m.2.2.1] at e1
  rw [m.2.2.2.1] at e2
  have f := Int.mul_ediv_add_emod A B
  have f1 := Int.emod_nonneg A (show B ≠ 0 by omega)
  have f2 := Int.emod_lt_of_pos A hB
  rw [hz] at f
  constructor
  · apply Int.le_of_mul_le_mul_right _ hg
    have : z * q.den * gcdZ A B = B * z := by rw [Int.mul_assoc, e2, Int.mul_comm]
    rw [this, e1]; omega
  · apply Int.lt_of_mul_lt_mul_right _ (Int.le_of_lt hg)
    have : (z + 1) * q.den * gcdZ A B = B * z + B := by rw [Int.mul_assoc, e2, Int.add_mul, Int.one_mul, Int.mul_comm z]
    rw [this, e1]; omega
theorem pow_rat {m1 m2 : Nat} (h : m1 = 0 ∨ m2 = 0) (b1 : m1 ≤ 200) (b2 : m2 ≤ 200) : (Rat.divInt (pw m1 : Nat) (pw m2 : Nat)).num = (pw m1 : Nat) ∧ ((Rat.divInt (pw m1 : Nat) (pw m2 : Nat)).den : Int) = (pw m2 : Nat) ∧ Bd 512 (Rat.divInt (pw m1 : Nat) (pw m2 : Nat)) := by
  have hp : 0 < ((pw m2 : Nat) : Int) := by have := pw_pos m2; omega
  have hg : gcdZ ((pw m1 : Nat) : Int) ((pw m2 : Nat) : Int) = 1 := by
    unfold gcdZ
    rcases h with h | h
    · subst h; rw [pw_zero]; simp
    · subst h; rw [pw_zero]; simp
  have e := qn _ _ hp hg
  refine ⟨e.1, e.2, ?_, ?_⟩
  · rw [e.1, Int.natAbs_natCast]; exact Nat.lt_of_lt_of_le (pw_succ_lt m1) (pw_le (by omega))
  · have : (Rat.divInt (pw m1 : Nat) (pw m2 : Nat)).den = pw m2 := by have := e.2; omega
    rw [this]; exact Nat.lt_of_lt_of_le (pw_succ_lt m2) (pw_le (by omega))
theorem shf_bd {n s : Int} (hn : n.natAbs < pw 512) (hs : s ≤ 200) : (shf n s).natAbs < pw 712 := by
  unfold shf
  by_cases h : 0 ≤ s
  · rw [if_pos h, Int.natAbs_mul, Int.natAbs_natCast]
    have k : pw s.toNat ≤ pw 200 := pw_le (by omega)
    have e : pw 712 = pw 512 * pw 200 := pw_add 512 200
    rw [e]
    exact Nat.lt_of_lt_of_le (Nat.mul_lt_mul_of_pos_right hn (pw_pos _)) (Nat.mul_le_mul_left _ k)
  · rw [if_neg h]
    exact Nat.lt_of_le_of_lt (Int.natAbs_ediv_le_natAbs _ _) (Nat.lt_of_lt_of_le hn (pw_le (by decide)))
theorem rationalFloors_any (a : RVal) (s : Int) (w : World) (h1 : a.In w) (i1 : -9223372036854775808 ≤ s) (i2 : s ≤ 9223372036854775807) :
    Calls Tryz.prog 12 #[.agg #[.bool a.g, .slice a.A a.n a.c, .bool a.gd, .slice a.Ad a.nd a.cd], .int .i64 s] w fun e w' => e = .returned (.bool true) ∧ Below w.heap.size w w' := by
  rcases hv : vok a a a 16 with _ | _
  · exact fl_no a s w h1 hv
  rcases hl : decide (s < (-200)) with _ | _
  rotate_left
  · exact fl_low a s w h1 hv hl
  rcases hg : decide ((200 : Int) < s) with _ | _
  rotate_left
  · exact fl_high a s w h1 hv ⟨hl, hg⟩
  have l1 := of_decide_eq_false hl
  have l2 := of_decide_eq_false hg
  obtain ⟨x, _, _, hx, _, _, bx, _, _⟩ := vok_yes h1 h1 h1 hv
  have bx : Bd 512 x := bx
  have w1 : wrap64 (-s) = -s := by unfold wrap64; omega
  obtain ⟨m1, hm1⟩ : ∃ m, max s 0 = m := ⟨_, rfl⟩
  obtain ⟨m2, hm2⟩ : ∃ m, max (-s) 0 = m := ⟨_, rfl⟩
  have p1 : 0 ≤ m1 ∧ m1 ≤ 200 := by omega
  have p2 : 0 ≤ m2 ∧ m2 ≤ 200 := by omega
  have u1 := shf_one p1.1
  have u2 := shf_one p2.1
  have z12 : m1.toNat = 0 ∨ m2.toNat = 0 := by omega
  have hσ := pow_rat z12 (show m1.toNat ≤ 200 by omega) (show m2.toNat ≤ 200 by omega)
  have sb := shf_bd bx.1 (show s ≤ 200 by omega)
  have p712 := pw_succ_lt 712
  have hd := x.den_pos
  obtain ⟨z, hz⟩ : ∃ z, shf x.num s / (x.den : Int) = z := ⟨_, rfl⟩
  have zb : z.natAbs < pw 712 := by rw [← hz]; exact Nat.lt_of_le_of_lt (Int.natAbs_ediv_le_natAbs _ _) sb
  have zb1 : (z + 1).natAbs < BIG := big_le (e := 713) (show (z + 1).natAbs < pw (712 + 1) by omega) (by decide)
  have hF : ∀ w, a.In w → Calls Tryz.prog 33 #[.agg #[.bool a.g, .slice a.A a.n a.c, .bool a.gd, .slice a.Ad a.nd a.cd], .int .i64 s] w (RetZZ z w) := fun w h =>
    (floor_ok a s w h x _ 0 z hx i1 i2 (big_le sb (by decide)) rfl rfl hz).mono fun _ _ k => k.zz (big_le zb (by decide))
  have b1 : (shf 1 m1).natAbs < BIG := by rw [u1, Int.natAbs_natCast]; exact big_le (z := ((pw m1.toNat : Nat) : Int)) (e := 201) (by rw [Int.natAbs_natCast]; exact Nat.lt_of_lt_of_le (pw_succ_lt _) (pw_le (by omega))) (by decide)
  have b2 : (shf 1 m2).natAbs < BIG := by rw [u2, Int.natAbs_natCast]; exact big_le (z := ((pw m2.toNat : Nat) : Int)) (e := 201) (by rw [Int.natAbs_natCast]; exact Nat.lt_of_lt_of_le (pw_succ_lt _) (pw_le (by omega))) (by decide)
  have d2 : shf 1 m2 ≠ 0 := by rw [u2]; have := pw_pos m2.toNat; omega
  have hB : 0 < (x.den : Int) * ((pw m2.toNat : Nat) : Int) := Int.mul_pos (by omega) (by have := pw_pos m2.toNat; omega)
  have hA : x.num * ((pw m1.toNat : Nat) : Int) / ((x.den : Int) * ((pw m2.toNat : Nat) : Int)) = z := by
    rw [← hz]
    unfold shf
    by_cases h : 0 ≤ s
    · have e1 : m1 = s := by omega
      have e2 : m2.toNat = 0 := by omega
      rw [if_pos h, e1, e2, pw_zero]; simp
    · have e1 : m1.toNat = 0 := by omega
      have e2 : m2 = -s := by omega
      rw [if_neg h, e1, e2, pw_zero, Int.ediv_ediv_of_nonneg (Int.natCast_nonneg _), Int.mul_comm (x.den : Int)]; simp
  have hq : x * Rat.divInt ((pw m1.toNat : Nat) : Int) ((pw m2.toNat : Nat) : Int) = Rat.divInt (x.num * ((pw m1.toNat : Nat) : Int)) ((x.den : Int) * ((pw m2.toNat : Nat) : Int)) := by
    rw [← rat_mul, hσ.1, hσ.2.1]
  have fn := floor_num hB hq hA
  have q1 := qn z 1 (by decide) (by unfold gcdZ; simp)
  have q2 := qn (z + 1) 1 (by decide) (by unfold gcdZ; simp)
  refine fl_yes a s w h1 x hx z m1 m2 _ _ hv ⟨hl, hg⟩ ⟨hm1, by rw [w1]; exact hm2, ⟨by omega, by omega⟩, b1, ⟨by omega, by omega⟩, b2⟩ ⟨d2, bx, by rw [u1, u2]; exact hσ.2.2, zb1⟩ ⟨rfl, rfl, ?_, ?_⟩ hF
  · rw [u1, u2, q1.1, q1.2, Int.mul_one, decide_eq_true_iff]
    rcases sign_three (z * ((x * Rat.divInt ((pw m1.toNat : Nat) : Int) ((pw m2.toNat : Nat) : Int)).den : Int) - (x * Rat.divInt ((pw m1.toNat : Nat) : Int) ((pw m2.toNat : Nat) : Int)).num) with ⟨k, l⟩ | ⟨k, l⟩ | ⟨k, l⟩ <;> omega
  · rw [u1, u2, q2.1, q2.2, Int.mul_one, decide_eq_true_iff]
    rcases sign_three ((x * Rat.divInt ((pw m1.toNat : Nat) : Int) ((pw m2.toNat : Nat) : Int)).num - (z + 1) * ((x * Rat.divInt ((pw m1.toNat : Nat) : Int) ((pw m2.toNat : Nat) : Int)).den : Int)) with ⟨k, l⟩ | ⟨k, l⟩ | ⟨k, l⟩ <;> omega
end Go.Proofs.YtlibjampolcbhaaGreat
