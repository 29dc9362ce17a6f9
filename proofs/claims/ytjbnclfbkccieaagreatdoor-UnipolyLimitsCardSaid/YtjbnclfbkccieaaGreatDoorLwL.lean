/-
  Stage 3: UnipolyLimits.
-/
import Derived.Test.YtjbnclfbkccieaaGreatDoorBehind3
import Derived.Test.YtjbnclfbkccieaaGreatDoorLwB
import Derived.Test.YtjbnclfbkccieaaGreatDoorUniX
namespace Go.Proofs.YtjbnclfbkccieaaGreatDoor
open Go.RowKit
theorem xp_ok {a : Nat} (h : a ≤ 64) : Tr (xp a) ∧ (xp a).length ≤ 65 := ⟨Tr.of (xp_trim a), by rw [xp_len]; omega⟩
set_option linter.unusedSimpArgs false in
set_option linter.unusedVariables false in
set_option maxRecDepth 20000 in
set_option maxHeartbeats 4000000 in
theorem unipolyLimits_any (zn za zb : Int) (w : World) (n1 : -9223372036854775808 ≤ zn) (n2 : zn ≤ 9223372036854775807) (a1 : -9223372036854775808 ≤ za) (a2 : za ≤ 9223372036854775807) (b1 : -9223372036854775808 ≤ zb) (b2 : zb ≤ 9223372036854775807) : Calls Tryz.prog 4 #[.int .i64 zn, .int .i64 za, .int .i64 zb] w (Yes w) := by
  have M0 := hI (Lm.nil w)
  obtain ⟨n, hn⟩ : ∃ n : Nat, pk zn 4 = (n : Int) := ⟨_, (Int.toNat_of_nonneg (pk_lo zn (by decide))).symm⟩
  have ln : n < 4 := by have := pk_hi zn (n := 4) (by decide); omega
  have Hn := hI hn
  have Bn := hI (And.intro n1 n2)
  obtain ⟨a, ha⟩ : ∃ a : Nat, pk za 65 = (a : Int) := ⟨_, (Int.toNat_of_nonneg (pk_lo za (by decide))).symm⟩
  have la : a < 65 := by have := pk_hi za (n := 65) (by decide); omega
  have Ha := hI ha
  have Ba := hI (And.intro a1 a2)
  obtain ⟨b, hb⟩ : ∃ b : Nat, pk zb 65 = (b : Int) := ⟨_, (Int.toNat_of_nonneg (pk_lo zb (by decide))).symm⟩
  have lb : b < 65 := by have := pk_hi zb (n := 65) (by decide); omega
  have Hb := hI hb
  have Bb := hI (And.intro b1 b2)
  obtain ⟨c, hc⟩ : ∃ c : Nat, a % 10 = c := ⟨_, rfl⟩
  obtain ⟨d, hd⟩ : ∃ d : Nat, b % 10 = d := ⟨_, rfl⟩
  have lc : c < 10 := by omega
  have ld : d < 10 := by omega
  have tc : ((a : Int)).tmod 10 = (c : Int) := by rw [Int.tmod_eq_emod_of_nonneg (by omega)]; omega
  have td : ((b : Int)).tmod 10 = (d : Int) := by rw [Int.tmod_eq_emod_of_nonneg (by omega)]; omega
  clear hn ha hb hc hd n1 n2 a1 a2 b1 b2
  go_enter Tryz.func4, Tryz.ntmps4
  go_wp2_with fail
  refine (sane_any w).mono ?_
  rintro e w1 ⟨rfl, hb⟩
  have M2 := hI (M0.out.on hb)
  clear M0 hb
  go_wp2_with fail
  have C := pick_any zn 4 w1 Bn.out.1 Bn.out.2 (by decide) (by decide)
  rw [Hn.out] at C
  refine C.mono ?_
  clear C
  rintro e w3 ⟨rfl, rfl⟩
  go_wp2_with fail
  have C := ones_any (63 + n) w1 (by omega)
  rw [show ((63 + n : Nat) : Int) = 63 + (n : Int) from by push_cast; rfl] at C
  refine C.mono ?_
  clear C
  rintro e w4 ⟨Ao, no, co, rfl, ⟨Lo, hp, hv⟩, hb⟩
  have M5 := hI (M2.out.on hb)
  clear M2 hb
  have HO := hI (And.intro hp hv)
  clear hp hv
  by_cases hk : n ≤ 2
  · have h1 : (63 : Int) + (n : Int) ≤ 65 := by omega
    by_cases hab : a + b ≤ 64
    · have h2 : (a : Int) + (b : Int) ≤ 64 := by omega
      by_cases hcd : c * d ≤ 64
      · have h3 : (c : Int) * (d : Int) ≤ 64 := by rw [← Int.natCast_mul]; omega
        go_wp2_with fail
        have C := ucheck_any Ao no co Lo w4 HO.out.1 (by rw [← HO.out.1.len, HO.out.2.len, List.length_replicate]; omega)
        rw [chk_ok HO.out.1 HO.out.2 (ones_tr _) (by rw [List.length_replicate]; omega)] at C
        refine C.mono ?_
        clear C HO
        rintro e w6 ⟨rfl, hb⟩
        have M7 := hI (M5.out.on hb)
        clear M5 hb
        go_wp2_with fail
        have C := pick_any za 65 w6 Ba.out.1 Ba.out.2 (by decide) (by decide)
        rw [Ha.out] at C
        refine C.mono ?_
        clear C
        rintro e w8 ⟨rfl, rfl⟩
        go_wp2_with fail
        have C := pick_any zb 65 w6 Bb.out.1 Bb.out.2 (by decide) (by decide)
        rw [Hb.out] at C
        refine C.mono ?_
        clear C
        rintro e w9 ⟨rfl, rfl⟩
        go_wp2_with fail
        have C := power_any a w6 (by omega)
        refine C.mono ?_
        clear C
        rintro e w10 ⟨Apa, npa, cpa, rfl, hp, hb⟩
        have M10 := hI ((M7.out.on hb).add (x := .p Apa npa cpa (xp a)) ⟨hp, xp_ok (by omega)⟩)
        clear M7 hp hb
        go_wp2_with fail
        have C := power_any b w10 (by omega)
        refine C.mono ?_
        clear C
        rintro e w11 ⟨Apb, npb, cpb, rfl, hp, hb⟩
        have M11 := hI ((M10.out.on hb).add (x := .p Apb npb cpb (xp b)) ⟨hp, xp_ok (by omega)⟩)
        clear M10 hp hb
        go_wp2_with fail
        have C := Mul_any _ _ _ _ _ _ _ _ w11 (M11.out.p 1 rfl).1 (M11.out.p 0 rfl).1 (M11.out.p 1 rfl).2.1 (M11.out.p 0 rfl).2.1 (M11.out.p 1 rfl).2.2 (M11.out.p 0 rfl).2.2
        rw [xp_mulO, if_neg (by omega)] at C
        refine C.mono ?_
        clear C
        rintro e w12 ⟨Am, nm, cm, rfl, hp, hb⟩
        have M12 := hI ((M11.out.on hb).add (x := .p Am nm cm (xp (a + b))) ⟨hp, xp_ok (by omega)⟩)
        clear M11 hp hb
        go_wp2_with fail
        have C := power_any c w12 (by omega)
        refine C.mono ?_
        clear C
        rintro e w13 ⟨Apc, npc, cpc, rfl, hp, hb⟩
        have M13 := hI ((M12.out.on hb).add (x := .p Apc npc cpc (xp c)) ⟨hp, xp_ok (by omega)⟩)
        clear M12 hp hb
        go_wp2_with fail
        have C := power_any d w13 (by omega)
        refine C.mono ?_
        clear C
        rintro e w14 ⟨Apd, npd, cpd, rfl, hp, hb⟩
        have M14 := hI ((M13.out.on hb).add (x := .p Apd npd cpd (xp d)) ⟨hp, xp_ok (by omega)⟩)
        clear M13 hp hb
        go_wp2_with fail
        have C := Compose_any _ _ _ _ _ _ _ _ w14 (M14.out.p 1 rfl).1 (M14.out.p 0 rfl).1 (M14.out.p 1 rfl).2.1 (M14.out.p 0 rfl).2.1 (M14.out.p 1 rfl).2.2 (M14.out.p 0 rfl).2.2
        rw [xp_compO, if_neg (by omega)] at C
        refine C.mono ?_
        clear C
        rintro e w15 ⟨Aq, nq, cq, rfl, hp, hb⟩
        have M15 := hI ((M14.out.on hb).add (x := .p Aq nq cq (xp (c * d))) ⟨hp, xp_ok (by omega)⟩)
        clear M14 hp hb
        go_wp2_with fail
        have C := power_any (a + b) w15 (by omega)
        rw [show ((a + b : Nat) : Int) = (a : Int) + (b : Int) from by push_cast; rfl] at C
        refine C.mono ?_
        clear C
        rintro e w16 ⟨Aab, nab, cab, rfl, hp, hb⟩
        have M16 := hI ((M15.out.on hb).add (x := .p Aab nab cab (xp (a + b))) ⟨hp, xp_ok (by omega)⟩)
        clear M15 hp hb
        go_wp2_with fail
        refine (same_yes (M16.out.p 4 rfl).1 (M16.out.p 0 rfl).1 (by have := (M16.out.p 4 rfl).2.2; omega)).mono ?_
        rintro e w17 ⟨rfl, hb⟩
        have M18 := hI (M16.out.on hb)
        clear M16 hb
        go_wp2_with fail
        have C := power_any (c * d) w17 (by omega)
        rw [show ((c * d : Nat) : Int) = (c : Int) * (d : Int) from by push_cast; rfl] at C
        refine C.mono ?_
        clear C
        rintro e w19 ⟨Acd, ncd, ccd, rfl, hp, hb⟩
        have M19 := hI ((M18.out.on hb).add (x := .p Acd ncd ccd (xp (c * d))) ⟨hp, xp_ok (by omega)⟩)
        clear M18 hp hb
        go_wp2_with fail
        refine (same_yes (M19.out.p 2 rfl).1 (M19.out.p 0 rfl).1 (by have := (M19.out.p 2 rfl).2.2; omega)).mono ?_
        rintro e w20 ⟨rfl, hb⟩
        have M21 := hI (M19.out.on hb)
        clear M19 hb
        go_wp2
        go_ret
        exact ⟨rfl, M21.out.bel⟩
      · have h3 : ¬ (c : Int) * (d : Int) ≤ 64 := by rw [← Int.natCast_mul]; omega
        have h4 : (c : Int) * (d : Int) ≤ 81 := by have := Nat.mul_le_mul (show c ≤ 9 by omega) (show d ≤ 9 by omega); rw [← Int.natCast_mul]; omega
        go_wp2_with fail
        have C := ucheck_any Ao no co Lo w4 HO.out.1 (by rw [← HO.out.1.len, HO.out.2.len, List.length_replicate]; omega)
        rw [chk_ok HO.out.1 HO.out.2 (ones_tr _) (by rw [List.length_replicate]; omega)] at C
        refine C.mono ?_
        clear C HO
        rintro e w6 ⟨rfl, hb⟩
        have M7 := hI (M5.out.on hb)
        clear M5 hb
        go_wp2_with fail
        have C := pick_any za 65 w6 Ba.out.1 Ba.out.2 (by decide) (by decide)
        rw [Ha.out] at C
        refine C.mono ?_
        clear C
        rintro e w8 ⟨rfl, rfl⟩
        go_wp2_with fail
        have C := pick_any zb 65 w6 Bb.out.1 Bb.out.2 (by decide) (by decide)
        rw [Hb.out] at C
        refine C.mono ?_
        clear C
        rintro e w9 ⟨rfl, rfl⟩
        go_wp2_with fail
        have C := power_any a w6 (by omega)
        refine C.mono ?_
        clear C
        rintro e w10 ⟨Apa, npa, cpa, rfl, hp, hb⟩
        have M10 := hI ((M7.out.on hb).add (x := .p Apa npa cpa (xp a)) ⟨hp, xp_ok (by omega)⟩)
        clear M7 hp hb
        go_wp2_with fail
        have C := power_any b w10 (by omega)
        refine C.mono ?_
        clear C
        rintro e w11 ⟨Apb, npb, cpb, rfl, hp, hb⟩
        have M11 := hI ((M10.out.on hb).add (x := .p Apb npb cpb (xp b)) ⟨hp, xp_ok (by omega)⟩)
        clear M10 hp hb
        go_wp2_with fail
        have C := Mul_any _ _ _ _ _ _ _ _ w11 (M11.out.p 1 rfl).1 (M11.out.p 0 rfl).1 (M11.out.p 1 rfl).2.1 (M11.out.p 0 rfl).2.1 (M11.out.p 1 rfl).2.2 (M11.out.p 0 rfl).2.2
        rw [xp_mulO, if_neg (by omega)] at C
        refine C.mono ?_
        clear C
        rintro e w12 ⟨Am, nm, cm, rfl, hp, hb⟩
        have M12 := hI ((M11.out.on hb).add (x := .p Am nm cm (xp (a + b))) ⟨hp, xp_ok (by omega)⟩)
        clear M11 hp hb
        go_wp2_with fail
        have C := power_any c w12 (by omega)
        refine C.mono ?_
        clear C
        rintro e w13 ⟨Apc, npc, cpc, rfl, hp, hb⟩
        have M13 := hI ((M12.out.on hb).add (x := .p Apc npc cpc (xp c)) ⟨hp, xp_ok (by omega)⟩)
        clear M12 hp hb
        go_wp2_with fail
        have C := power_any d w13 (by omega)
        refine C.mono ?_
        clear C
        rintro e w14 ⟨Apd, npd, cpd, rfl, hp, hb⟩
        have M14 := hI ((M13.out.on hb).add (x := .p Apd npd cpd (xp d)) ⟨hp, xp_ok (by omega)⟩)
        clear M13 hp hb
        go_wp2_with fail
        have C := Compose_any _ _ _ _ _ _ _ _ w14 (M14.out.p 1 rfl).1 (M14.out.p 0 rfl).1 (M14.out.p 1 rfl).2.1 (M14.out.p 0 rfl).2.1 (M14.out.p 1 rfl).2.2 (M14.out.p 0 rfl).2.2
        rw [xp_compO, if_pos (by omega)] at C
        refine C.mono ?_
        clear C
        rintro e w15 ⟨rfl, hb⟩
        have M16 := hI (M14.out.on hb)
        clear M14 hb
        go_wp2_with fail
        have C := power_any (a + b) w15 (by omega)
        rw [show ((a + b : Nat) : Int) = (a : Int) + (b : Int) from by push_cast; rfl] at C
        refine C.mono ?_
        clear C
        rintro e w17 ⟨Aab, nab, cab, rfl, hp, hb⟩
        have M17 := hI ((M16.out.on hb).add (x := .p Aab nab cab (xp (a + b))) ⟨hp, xp_ok (by omega)⟩)
        clear M16 hp hb
        go_wp2_with fail
        refine (same_yes (M17.out.p 3 rfl).1 (M17.out.p 0 rfl).1 (by have := (M17.out.p 3 rfl).2.2; omega)).mono ?_
        rintro e w18 ⟨rfl, hb⟩
        have M19 := hI (M17.out.on hb)
        clear M17 hb
        go_wp2
        go_ret
        exact ⟨rfl, M19.out.bel⟩
    · have h2 : ¬ (a : Int) + (b : Int) ≤ 64 := by omega
      by_cases hcd : c * d ≤ 64
      · have h3 : (c : Int) * (d : Int) ≤ 64 := by rw [← Int.natCast_mul]; omega
        go_wp2_with fail
        have C := ucheck_any Ao no co Lo w4 HO.out.1 (by rw [← HO.out.1.len, HO.out.2.len, List.length_replicate]; omega)
        rw [chk_ok HO.out.1 HO.out.2 (ones_tr _) (by rw [List.length_replicate]; omega)] at C
        refine C.mono ?_
        clear C HO
        rintro e w6 ⟨rfl, hb⟩
        have M7 := hI (M5.out.on hb)
        clear M5 hb
        go_wp2_with fail
        have C := pick_any za 65 w6 Ba.out.1 Ba.out.2 (by decide) (by decide)
        rw [Ha.out] at C
        refine C.mono ?_
        clear C
        rintro e w8 ⟨rfl, rfl⟩
        go_wp2_with fail
        have C := pick_any zb 65 w6 Bb.out.1 Bb.out.2 (by decide) (by decide)
        rw [Hb.out] at C
        refine C.mono ?_
        clear C
        rintro e w9 ⟨rfl, rfl⟩
        go_wp2_with fail
        have C := power_any a w6 (by omega)
        refine C.mono ?_
        clear C
        rintro e w10 ⟨Apa, npa, cpa, rfl, hp, hb⟩
        have M10 := hI ((M7.out.on hb).add (x := .p Apa npa cpa (xp a)) ⟨hp, xp_ok (by omega)⟩)
        clear M7 hp hb
        go_wp2_with fail
        have C := power_any b w10 (by omega)
        refine C.mono ?_
        clear C
        rintro e w11 ⟨Apb, npb, cpb, rfl, hp, hb⟩
        have M11 := hI ((M10.out.on hb).add (x := .p Apb npb cpb (xp b)) ⟨hp, xp_ok (by omega)⟩)
        clear M10 hp hb
        go_wp2_with fail
        have C := Mul_any _ _ _ _ _ _ _ _ w11 (M11.out.p 1 rfl).1 (M11.out.p 0 rfl).1 (M11.out.p 1 rfl).2.1 (M11.out.p 0 rfl).2.1 (M11.out.p 1 rfl).2.2 (M11.out.p 0 rfl).2.2
        rw [xp_mulO, if_pos (by omega)] at C
        refine C.mono ?_
        clear C
        rintro e w12 ⟨rfl, hb⟩
        have M13 := hI (M11.out.on hb)
        clear M11 hb
        go_wp2_with fail
        have C := power_any c w12 (by omega)
        refine C.mono ?_
        clear C
        rintro e w14 ⟨Apc, npc, cpc, rfl, hp, hb⟩
        have M14 := hI ((M13.out.on hb).add (x := .p Apc npc cpc (xp c)) ⟨hp, xp_ok (by omega)⟩)
        clear M13 hp hb
        go_wp2_with fail
        have C := power_any d w14 (by omega)
        refine C.mono ?_
        clear C
        rintro e w15 ⟨Apd, npd, cpd, rfl, hp, hb⟩
        have M15 := hI ((M14.out.on hb).add (x := .p Apd npd cpd (xp d)) ⟨hp, xp_ok (by omega)⟩)
        clear M14 hp hb
        go_wp2_with fail
        have C := Compose_any _ _ _ _ _ _ _ _ w15 (M15.out.p 1 rfl).1 (M15.out.p 0 rfl).1 (M15.out.p 1 rfl).2.1 (M15.out.p 0 rfl).2.1 (M15.out.p 1 rfl).2.2 (M15.out.p 0 rfl).2.2
        rw [xp_compO, if_neg (by omega)] at C
        refine C.mono ?_
        clear C
        rintro e w16 ⟨Aq, nq, cq, rfl, hp, hb⟩
        have M16 := hI ((M15.out.on hb).add (x := .p Aq nq cq (xp (c * d))) ⟨hp, xp_ok (by omega)⟩)
        clear M15 hp hb
        go_wp2_with fail
        have C := power_any (c * d) w16 (by omega)
        rw [show ((c * d : Nat) : Int) = (c : Int) * (d : Int) from by push_cast; rfl] at C
        refine C.mono ?_
        clear C
        rintro e w17 ⟨Acd, ncd, ccd, rfl, hp, hb⟩
        have M17 := hI ((M16.out.on hb).add (x := .p Acd ncd ccd (xp (c * d))) ⟨hp, xp_ok (by omega)⟩)
        clear M16 hp hb
        go_wp2_with fail
        refine (same_yes (M17.out.p 1 rfl).1 (M17.out.p 0 rfl).1 (by have := (M17.out.p 1 rfl).2.2; omega)).mono ?_
        rintro e w18 ⟨rfl, hb⟩
        have M19 := hI (M17.out.on hb)
        clear M17 hb
        go_wp2
        go_ret
        exact ⟨rfl, M19.out.bel⟩
      · have h3 : ¬ (c : Int) * (d : Int) ≤ 64 := by rw [← Int.natCast_mul]; omega
        have h4 : (c : Int) * (d : Int) ≤ 81 := by have := Nat.mul_le_mul (show c ≤ 9 by omega) (show d ≤ 9 by omega); rw [← Int.natCast_mul]; omega
        go_wp2_with fail
        have C := ucheck_any Ao no co Lo w4 HO.out.1 (by rw [← HO.out.1.len, HO.out.2.len, List.length_replicate]; omega)
        rw [chk_ok HO.out.1 HO.out.2 (ones_tr _) (by rw [List.length_replicate]; omega)] at C
        refine C.mono ?_
        clear C HO
        rintro e w6 ⟨rfl, hb⟩
        have M7 := hI (M5.out.on hb)
        clear M5 hb
        go_wp2_with fail
        have C := pick_any za 65 w6 Ba.out.1 Ba.out.2 (by decide) (by decide)
        rw [Ha.out] at C
        refine C.mono ?_
        clear C
        rintro e w8 ⟨rfl, rfl⟩
        go_wp2_with fail
        have C := pick_any zb 65 w6 Bb.out.1 Bb.out.2 (by decide) (by decide)
        rw [Hb.out] at C
        refine C.mono ?_
        clear C
        rintro e w9 ⟨rfl, rfl⟩
        go_wp2_with fail
        have C := power_any a w6 (by omega)
        refine C.mono ?_
        clear C
        rintro e w10 ⟨Apa, npa, cpa, rfl, hp, hb⟩
        have M10 := hI ((M7.out.on hb).add (x := .p Apa npa cpa (xp a)) ⟨hp, xp_ok (by omega)⟩)
        clear M7 hp hb
        go_wp2_with fail
        have C := power_any b w10 (by omega)
        refine C.mono ?_
        clear C
        rintro e w11 ⟨Apb, npb, cpb, rfl, hp, hb⟩
        have M11 := hI ((M10.out.on hb).add (x := .p Apb npb cpb (xp b)) ⟨hp, xp_ok (by omega)⟩)
        clear M10 hp hb
        go_wp2_with fail
        have C := Mul_any _ _ _ _ _ _ _ _ w11 (M11.out.p 1 rfl).1 (M11.out.p 0 rfl).1 (M11.out.p 1 rfl).2.1 (M11.out.p 0 rfl).2.1 (M11.out.p 1 rfl).2.2 (M11.out.p 0 rfl).2.2
        rw [xp_mulO, if_pos (by omega)] at C
        refine C.mono ?_
        clear C
        rintro e w12 ⟨rfl, hb⟩
        have M13 := hI (M11.out.on hb)
        clear M11 hb
        go_wp2_with fail
        have C := power_any c w12 (by omega)
        refine C.mono ?_
        clear C
        rintro e w14 ⟨Apc, npc, cpc, rfl, hp, hb⟩
        have M14 := hI ((M13.out.on hb).add (x := .p Apc npc cpc (xp c)) ⟨hp, xp_ok (by omega)⟩)
        clear M13 hp hb
        go_wp2_with fail
        have C := power_any d w14 (by omega)
        refine C.mono ?_
        clear C
        rintro e w15 ⟨Apd, npd, cpd, rfl, hp, hb⟩
        have M15 := hI ((M14.out.on hb).add (x := .p Apd npd cpd (xp d)) ⟨hp, xp_ok (by omega)⟩)
        clear M14 hp hb
        go_wp2_with fail
        have C := Compose_any _ _ _ _ _ _ _ _ w15 (M15.out.p 1 rfl).1 (M15.out.p 0 rfl).1 (M15.out.p 1 rfl).2.1 (M15.out.p 0 rfl).2.1 (M15.out.p 1 rfl).2.2 (M15.out.p 0 rfl).2.2
        rw [xp_compO, if_pos (by omega)] at C
        refine C.mono ?_
        clear C
        rintro e w16 ⟨rfl, hb⟩
        have M17 := hI (M15.out.on hb)
        clear M15 hb
        go_wp2
        go_ret
        exact ⟨rfl, M17.out.bel⟩
  · have h1 : ¬ (63 : Int) + (n : Int) ≤ 65 := by omega
    by_cases hab : a + b ≤ 64
    · have h2 : (a : Int) + (b : Int) ≤ 64 := by omega
      by_cases hcd : c * d ≤ 64
      · have h3 : (c : Int) * (d : Int) ≤ 64 := by rw [← Int.natCast_mul]; omega
        go_wp2_with fail
        have C := ucheck_any Ao no co Lo w4 HO.out.1 (by rw [← HO.out.1.len, HO.out.2.len, List.length_replicate]; omega)
        rw [chk_big HO.out.1 HO.out.2 (ones_tr _) (by rw [List.length_replicate]; omega)] at C
        refine C.mono ?_
        clear C HO
        rintro e w6 ⟨rfl, hb⟩
        have M7 := hI (M5.out.on hb)
        clear M5 hb
        go_wp2_with fail
        have C := pick_any za 65 w6 Ba.out.1 Ba.out.2 (by decide) (by decide)
        rw [Ha.out] at C
        refine C.mono ?_
        clear C
        rintro e w8 ⟨rfl, rfl⟩
        go_wp2_with fail
        have C := pick_any zb 65 w6 Bb.out.1 Bb.out.2 (by decide) (by decide)
        rw [Hb.out] at C
        refine C.mono ?_
        clear C
        rintro e w9 ⟨rfl, rfl⟩
        go_wp2_with fail
        have C := power_any a w6 (by omega)
        refine C.mono ?_
        clear C
        rintro e w10 ⟨Apa, npa, cpa, rfl, hp, hb⟩
        have M10 := hI ((M7.out.on hb).add (x := .p Apa npa cpa (xp a)) ⟨hp, xp_ok (by omega)⟩)
        clear M7 hp hb
        go_wp2_with fail
        have C := power_any b w10 (by omega)
        refine C.mono ?_
        clear C
        rintro e w11 ⟨Apb, npb, cpb, rfl, hp, hb⟩
        have M11 := hI ((M10.out.on hb).add (x := .p Apb npb cpb (xp b)) ⟨hp, xp_ok (by omega)⟩)
        clear M10 hp hb
        go_wp2_with fail
        have C := Mul_any _ _ _ _ _ _ _ _ w11 (M11.out.p 1 rfl).1 (M11.out.p 0 rfl).1 (M11.out.p 1 rfl).2.1 (M11.out.p 0 rfl).2.1 (M11.out.p 1 rfl).2.2 (M11.out.p 0 rfl).2.2
        rw [xp_mulO, if_neg (by omega)] at C
        refine C.mono ?_
        clear C
        rintro e w12 ⟨Am, nm, cm, rfl, hp, hb⟩
        have M12 := hI ((M11.out.on hb).add (x := .p Am nm cm (xp (a + b))) ⟨hp, xp_ok (by omega)⟩)
        clear M11 hp hb
        go_wp2_with fail
        have C := power_any c w12 (by omega)
        refine C.mono ?_
        clear C
        rintro e w13 ⟨Apc, npc, cpc, rfl, hp, hb⟩
        have M13 := hI ((M12.out.on hb).add (x := .p Apc npc cpc (xp c)) ⟨hp, xp_ok (by omega)⟩)
        clear M12 hp hb
        go_wp2_with fail
        have C := power_any d w13 (by omega)
        refine C.mono ?_
        clear C
        rintro e w14 ⟨Apd, npd, cpd, rfl, hp, hb⟩
        have M14 := hI ((M13.out.on hb).add (x := .p Apd npd cpd (xp d)) ⟨hp, xp_ok (by omega)⟩)
        clear M13 hp hb
        go_wp2_with fail
        have C := Compose_any _ _ _ _ _ _ _ _ w14 (M14.out.p 1 rfl).1 (M14.out.p 0 rfl).1 (M14.out.p 1 rfl).2.1 (M14.out.p 0 rfl).2.1 (M14.out.p 1 rfl).2.2 (M14.out.p 0 rfl).2.2
        rw [xp_compO, if_neg (by omega)] at C
        refine C.mono ?_
        clear C
        rintro e w15 ⟨Aq, nq, cq, rfl, hp, hb⟩
        have M15 := hI ((M14.out.on hb).add (x := .p Aq nq cq (xp (c * d))) ⟨hp, xp_ok (by omega)⟩)
        clear M14 hp hb
        go_wp2_with fail
        have C := power_any (a + b) w15 (by omega)
        rw [show ((a + b : Nat) : Int) = (a : Int) + (b : Int) from by push_cast; rfl] at C
        refine C.mono ?_
        clear C
        rintro e w16 ⟨Aab, nab, cab, rfl, hp, hb⟩
        have M16 := hI ((M15.out.on hb).add (x := .p Aab nab cab (xp (a + b))) ⟨hp, xp_ok (by omega)⟩)
        clear M15 hp hb
        go_wp2_with fail
        refine (same_yes (M16.out.p 4 rfl).1 (M16.out.p 0 rfl).1 (by have := (M16.out.p 4 rfl).2.2; omega)).mono ?_
        rintro e w17 ⟨rfl, hb⟩
        have M18 := hI (M16.out.on hb)
        clear M16 hb
        go_wp2_with fail
        have C := power_any (c * d) w17 (by omega)
        rw [show ((c * d : Nat) : Int) = (c : Int) * (d : Int) from by push_cast; rfl] at C
        refine C.mono ?_
        clear C
        rintro e w19 ⟨Acd, ncd, ccd, rfl, hp, hb⟩
        have M19 := hI ((M18.out.on hb).add (x := .p Acd ncd ccd (xp (c * d))) ⟨hp, xp_ok (by omega)⟩)
        clear M18 hp hb
        go_wp2_with fail
        refine (same_yes (M19.out.p 2 rfl).1 (M19.out.p 0 rfl).1 (by have := (M19.out.p 2 rfl).2.2; omega)).mono ?_
        rintro e w20 ⟨rfl, hb⟩
        have M21 := hI (M19.out.on hb)
        clear M19 hb
        go_wp2
        go_ret
        exact ⟨rfl, M21.out.bel⟩
      · have h3 : ¬ (c : Int) * (d : Int) ≤ 64 := by rw [← Int.natCast_mul]; omega
        have h4 : (c : Int) * (d : Int) ≤ 81 := by have := Nat.mul_le_mul (show c ≤ 9 by omega) (show d ≤ 9 by omega); rw [← Int.natCast_mul]; omega
        go_wp2_with fail
        have C := ucheck_any Ao no co Lo w4 HO.out.1 (by rw [← HO.out.1.len, HO.out.2.len, List.length_replicate]; omega)
        rw [chk_big HO.out.1 HO.out.2 (ones_tr _) (by rw [List.length_replicate]; omega)] at C
        refine C.mono ?_
        clear C HO
        rintro e w6 ⟨rfl, hb⟩
        have M7 := hI (M5.out.on hb)
        clear M5 hb
        go_wp2_with fail
        have C := pick_any za 65 w6 Ba.out.1 Ba.out.2 (by decide) (by decide)
        rw [Ha.out] at C
        refine C.mono ?_
        clear C
        rintro e w8 ⟨rfl, rfl⟩
        go_wp2_with fail
        have C := pick_any zb 65 w6 Bb.out.1 Bb.out.2 (by decide) (by decide)
        rw [Hb.out] at C
        refine C.mono ?_
        clear C
        rintro e w9 ⟨rfl, rfl⟩
        go_wp2_with fail
        have C := power_any a w6 (by omega)
        refine C.mono ?_
        clear C
        rintro e w10 ⟨Apa, npa, cpa, rfl, hp, hb⟩
        have M10 := hI ((M7.out.on hb).add (x := .p Apa npa cpa (xp a)) ⟨hp, xp_ok (by omega)⟩)
        clear M7 hp hb
        go_wp2_with fail
        have C := power_any b w10 (by omega)
        refine C.mono ?_
        clear C
        rintro e w11 ⟨Apb, npb, cpb, rfl, hp, hb⟩
        have M11 := hI ((M10.out.on hb).add (x := .p Apb npb cpb (xp b)) ⟨hp, xp_ok (by omega)⟩)
        clear M10 hp hb
        go_wp2_with fail
        have C := Mul_any _ _ _ _ _ _ _ _ w11 (M11.out.p 1 rfl).1 (M11.out.p 0 rfl).1 (M11.out.p 1 rfl).2.1 (M11.out.p 0 rfl).2.1 (M11.out.p 1 rfl).2.2 (M11.out.p 0 rfl).2.2
        rw [xp_mulO, if_neg (by omega)] at C
        refine C.mono ?_
        clear C
        rintro e w12 ⟨Am, nm, cm, rfl, hp, hb⟩
        have M12 := hI ((M11.out.on hb).add (x := .p Am nm cm (xp (a + b))) ⟨hp, xp_ok (by omega)⟩)
        clear M11 hp hb
        go_wp2_with fail
        have C := power_any c w12 (by omega)
        refine C.mono ?_
        clear C
        rintro e w13 ⟨Apc, npc, cpc, rfl, hp, hb⟩
        have M13 := hI ((M12.out.on hb).add (x := .p Apc npc cpc (xp c)) ⟨hp, xp_ok (by omega)⟩)
        clear M12 hp hb
        go_wp2_with fail
        have C := power_any d w13 (by omega)
        refine C.mono ?_
        clear C
        rintro e w14 ⟨Apd, npd, cpd, rfl, hp, hb⟩
        have M14 := hI ((M13.out.on hb).add (x := .p Apd npd cpd (xp d)) ⟨hp, xp_ok (by omega)⟩)
        clear M13 hp hb
        go_wp2_with fail
        have C := Compose_any _ _ _ _ _ _ _ _ w14 (M14.out.p 1 rfl).1 (M14.out.p 0 rfl).1 (M14.out.p 1 rfl).2.1 (M14.out.p 0 rfl).2.1 (M14.out.p 1 rfl).2.2 (M14.out.p 0 rfl).2.2
        rw [xp_compO, if_pos (by omega)] at C
        refine C.mono ?_
        clear C
        rintro e w15 ⟨rfl, hb⟩
        have M16 := hI (M14.out.on hb)
        clear M14 hb
        go_wp2_with fail
        have C := power_any (a + b) w15 (by omega)
        rw [show ((a + b : Nat) : Int) = (a : Int) + (b : Int) from by push_cast; rfl] at C
        refine C.mono ?_
        clear C
        rintro e w17 ⟨Aab, nab, cab, rfl, hp, hb⟩
        have M17 := hI ((M16.out.on hb).add (x := .p Aab nab cab (xp (a + b))) ⟨hp, xp_ok (by omega)⟩)
        clear M16 hp hb
        go_wp2_with fail
        refine (same_yes (M17.out.p 3 rfl).1 (M17.out.p 0 rfl).1 (by have := (M17.out.p 3 rfl).2.2; omega)).mono ?_
        rintro e w18 ⟨rfl, hb⟩
        have M19 := hI (M17.out.on hb)
        clear M17 hb
        go_wp2
        go_ret
        exact ⟨rfl, M19.out.bel⟩
    · have h2 : ¬ (a : Int) + (b : Int) ≤ 64 := by omega
      by_cases hcd : c * d ≤ 64
      · have h3 : (c : Int) * (d : Int) ≤ 64 := by rw [← Int.natCast_mul]; omega
        go_wp2_with fail
        have C := ucheck_any Ao no co Lo w4 HO.out.1 (by rw [← HO.out.1.len, HO.out.2.len, List.length_replicate]; omega)
        rw [chk_big HO.out.1 HO.out.2 (ones_tr _) (by rw [List.length_replicate]; omega)] at C
        refine C.mono ?_
        clear C HO
        rintro e w6 ⟨rfl, hb⟩
        have M7 := hI (M5.out.on hb)
        clear M5 hb
        go_wp2_with fail
        have C := pick_any za 65 w6 Ba.out.1 Ba.out.2 (by decide) (by decide)
        rw [Ha.out] at C
        refine C.mono ?_
        clear C
        rintro e w8 ⟨rfl, rfl⟩
        go_wp2_with fail
        have C := pick_any zb 65 w6 Bb.out.1 Bb.out.2 (by decide) (by decide)
        rw [Hb.out] at C
        refine C.mono ?_
        clear C
        rintro e w9 ⟨rfl, rfl⟩
        go_wp2_with fail
        have C := power_any a w6 (by omega)
        refine C.mono ?_
        clear C
        rintro e w10 ⟨Apa, npa, cpa, rfl, hp, hb⟩
        have M10 := hI ((M7.out.on hb).add (x := .p Apa npa cpa (xp a)) ⟨hp, xp_ok (by omega)⟩)
        clear M7 hp hb
        go_wp2_with fail
        have C := power_any b w10 (by omega)
        refine C.mono ?_
        clear C
        rintro e w11 ⟨Apb, npb, cpb, rfl, hp, hb⟩
        have M11 := hI ((M10.out.on hb).add (x := .p Apb npb cpb (xp b)) ⟨hp, xp_ok (by omega)⟩)
        clear M10 hp hb
        go_wp2_with fail
        have C := Mul_any _ _ _ _ _ _ _ _ w11 (M11.out.p 1 rfl).1 (M11.out.p 0 rfl).1 (M11.out.p 1 rfl).2.1 (M11.out.p 0 rfl).2.1 (M11.out.p 1 rfl).2.2 (M11.out.p 0 rfl).2.2
        rw [xp_mulO, if_pos (by omega)] at C
        refine C.mono ?_
        clear C
        rintro e w12 ⟨rfl, hb⟩
        have M13 := hI (M11.out.on hb)
        clear M11 hb
        go_wp2_with fail
        have C := power_any c w12 (by omega)
        refine C.mono ?_
        clear C
        rintro e w14 ⟨Apc, npc, cpc, rfl, hp, hb⟩
        have M14 := hI ((M13.out.on hb).add (x := .p Apc npc cpc (xp c)) ⟨hp, xp_ok (by omega)⟩)
        clear M13 hp hb
        go_wp2_with fail
        have C := power_any d w14 (by omega)
        refine C.mono ?_
        clear C
        rintro e w15 ⟨Apd, npd, cpd, rfl, hp, hb⟩
        have M15 := hI ((M14.out.on hb).add (x := .p Apd npd cpd (xp d)) ⟨hp, xp_ok (by omega)⟩)
        clear M14 hp hb
        go_wp2_with fail
        have C := Compose_any _ _ _ _ _ _ _ _ w15 (M15.out.p 1 rfl).1 (M15.out.p 0 rfl).1 (M15.out.p 1 rfl).2.1 (M15.out.p 0 rfl).2.1 (M15.out.p 1 rfl).2.2 (M15.out.p 0 rfl).2.2
        rw [xp_compO, if_neg (by omega)] at C
        refine C.mono ?_
        clear C
        rintro e w16 ⟨Aq, nq, cq, rfl, hp, hb⟩
        have M16 := hI ((M15.out.on hb).add (x := .p Aq nq cq (xp (c * d))) ⟨hp, xp_ok (by omega)⟩)
        clear M15 hp hb
        go_wp2_with fail
        have C := power_any (c * d) w16 (by omega)
        rw [show ((c * d : Nat) : Int) = (c : Int) * (d : Int) from by push_cast; rfl] at C
        refine C.mono ?_
        clear C
        rintro e w17 ⟨Acd, ncd, ccd, rfl, hp, hb⟩
        have M17 := hI ((M16.out.on hb).add (x := .p Acd ncd ccd (xp (c * d))) ⟨hp, xp_ok (by omega)⟩)
        clear M16 hp hb
        go_wp2_with fail
        refine (same_yes (M17.out.p 1 rfl).1 (M17.out.p 0 rfl).1 (by have := (M17.out.p 1 rfl).2.2; omega)).mono ?_
        rintro e w18 ⟨rfl, hb⟩
        have M19 := hI (M17.out.on hb)
        clear M17 hb
        go_wp2
        go_ret
        exact ⟨rfl, M19.out.bel⟩
      · have h3 : ¬ (c : Int) * (d : Int) ≤ 64 := by rw [← Int.natCast_mul]; omega
        have h4 : (c : Int) * (d : Int) ≤ 81 := by have := Nat.mul_le_mul (show c ≤ 9 by omega) (show d ≤ 9 by omega); rw [← Int.natCast_mul]; omega
        go_wp2_with fail
        have C := ucheck_any Ao no co Lo w4 HO.out.1 (by rw [← HO.out.1.len, HO.out.2.len, List.length_replicate]; omega)
        rw [chk_big HO.out.1 HO.out.2 (ones_tr _) (by rw [List.length_replicate]; omega)] at C
        refine C.mono ?_
        clear C HO
        rintro e w6 ⟨rfl, hb⟩
        have M7 := hI (M5.out.on hb)
        clear M5 hb
        go_wp2_with fail
        have C := pick_any za 65 w6 Ba.out.1 Ba.out.2 (by decide) (by decide)
        rw [Ha.out] at C
        refine C.mono ?_
        clear C
        rintro e w8 ⟨rfl, rfl⟩
        go_wp2_with fail
        have C := pick_any zb 65 w6 Bb.out.1 Bb.out.2 (by decide) (by decide)
        rw [Hb.out] at C
        refine C.mono ?_
        clear C
        rintro e w9 ⟨rfl, rfl⟩
        go_wp2_with fail
        have C := power_any a w6 (by omega)
        refine C.mono ?_
        clear C
        rintro e w10 ⟨Apa, npa, cpa, rfl, hp, hb⟩
        have M10 := hI ((M7.out.on hb).add (x := .p Apa npa cpa (xp a)) ⟨hp, xp_ok (by omega)⟩)
        clear M7 hp hb
        go_wp2_with fail
        have C := power_any b w10 (by omega)
        refine C.mono ?_
        clear C
        rintro e w11 ⟨Apb, npb, cpb, rfl, hp, hb⟩
        have M11 := hI ((M10.out.on hb).add (x := .p Apb npb cpb (xp b)) ⟨hp, xp_ok (by omega)⟩)
        clear M10 hp hb
        go_wp2_with fail
        have C := Mul_any _ _ _ _ _ _ _ _ w11 (M11.out.p 1 rfl).1 (M11.out.p 0 rfl).1 (M11.out.p 1 rfl).2.1 (M11.out.p 0 rfl).2.1 (M11.out.p 1 rfl).2.2 (M11.out.p 0 rfl).2.2
        rw [xp_mulO, if_pos (by omega)] at C
        refine C.mono ?_
        clear C
        rintro e w12 ⟨rfl, hb⟩
        have M13 := hI (M11.out.on hb)
        clear M11 hb
        go_wp2_with fail
        have C := power_any c w12 (by omega)
        refine C.mono ?_
        clear C
        rintro e w14 ⟨Apc, npc, cpc, rfl, hp, hb⟩
        have M14 := hI ((M13.out.on hb).add (x := .p Apc npc cpc (xp c)) ⟨hp, xp_ok (by omega)⟩)
        clear M13 hp hb
        go_wp2_with fail
        have C := power_any d w14 (by omega)
        refine C.mono ?_
        clear C
        rintro e w15 ⟨Apd, npd, cpd, rfl, hp, hb⟩
        have M15 := hI ((M14.out.on hb).add (x := .p Apd npd cpd (xp d)) ⟨hp, xp_ok (by omega)⟩)
        clear M14 hp hb
        go_wp2_with fail
        have C := Compose_any _ _ _ _ _ _ _ _ w15 (M15.out.p 1 rfl).1 (M15.out.p 0 rfl).1 (M15.out.p 1 rfl).2.1 (M15.out.p 0 rfl).2.1 (M15.out.p 1 rfl).2.2 (M15.out.p 0 rfl).2.2
        rw [xp_compO, if_pos (by omega)] at C
        refine C.mono ?_
        clear C
        rintro e w16 ⟨rfl, hb⟩
        have M17 := hI (M15.out.on hb)
        clear M15 hb
        go_wp2
        go_ret
        exact ⟨rfl, M17.out.bel⟩
end Go.Proofs.YtjbnclfbkccieaaGreatDoor
