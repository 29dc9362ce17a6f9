/-
  Stage 3: UnipolyDivision.
-/
import Derived.Test.YtjbnclfbkccieaaGreatDoorBehind2
import Derived.Test.YtjbnclfbkccieaaGreatDoorLwB
import Derived.Test.YtjbnclfbkccieaaGreatDoorPolCe
namespace Go.Proofs.YtjbnclfbkccieaaGreatDoor
open Go.RowKit
set_option linter.unusedSimpArgs false in
set_option linter.unusedVariables false in
set_option maxRecDepth 20000 in
set_option maxHeartbeats 4000000 in
theorem unipolyDivision_any (Bp : Option Addr) (mp dp : Nat) (zp : List Int) (Bq : Option Addr) (mq dq : Nat) (zq : List Int) (w : World) (ip : ISl w Bp mp dp zp) (iq : ISl w Bq mq dq zq) : Calls Tryz.prog 7 #[.slice Bp mp dp, .slice Bq mq dq] w (Yes w) := by
  have M0 := hI (Lm.nil w)
  obtain ⟨p, hp⟩ : ∃ p, polyL zp 8 = p := ⟨_, rfl⟩
  obtain ⟨q, hq⟩ : ∃ q, polyL zq 8 = q := ⟨_, rfl⟩
  have HK := hI (show Kn p 8 51 ∧ Kn q 8 51 from ⟨hp ▸ kn_poly zp 8, hq ▸ kn_poly zq 8⟩)
  have Ep := hI hp
  have Ip := hI ip
  have Eq := hI hq
  have Iq := hI iq
  clear hp hq ip iq
  go_enter Tryz.func7, Tryz.ntmps7
  go_wp2_with fail
  refine (sane_any w).mono ?_
  rintro e w1 ⟨rfl, hb⟩
  have M2 := hI (M0.out.on hb)
  clear M0 hb
  go_wp2_with fail
  have C := poly_any Bp mp dp zp 8 w1 (Ip.out.on M2.out.bel) (by decide)
  rw [Ep.out] at C
  refine C.mono ?_
  clear C
  rintro e w3 ⟨Ap, np, cp, rfl, hp, hb⟩
  have M3 := hI ((M2.out.on hb).add (x := .p Ap np cp p) ⟨hp, HK.out.1.ok (by decide)⟩)
  clear M2 hp hb
  go_wp2_with fail
  have C := poly_any Bq mq dq zq 8 w3 (Iq.out.on M3.out.bel) (by decide)
  rw [Eq.out] at C
  refine C.mono ?_
  clear C
  rintro e w4 ⟨Aq, nq, cq, rfl, hp, hb⟩
  have M4 := hI ((M3.out.on hb).add (x := .p Aq nq cq q) ⟨hp, HK.out.2.ok (by decide)⟩)
  clear M3 hp hb
  by_cases h0 : q = []
  · subst h0
    have hn : nq = 0 := (M4.out.p 0 rfl).1.len
    subst hn
    go_wp2_with fail
    have C := DivMod_any _ _ _ _ _ _ _ _ w4 (M4.out.p 1 rfl).1 (M4.out.p 0 rfl).1 (M4.out.p 1 rfl).2.1 (M4.out.p 0 rfl).2.1 (M4.out.p 1 rfl).2.2 (M4.out.p 0 rfl).2.2
    rw [show pdivO p [] = .error 4 from rfl] at C
    refine C.mono ?_
    clear C
    rintro e w5 ⟨rfl, hb⟩
    have M6 := hI (M4.out.on hb)
    clear M4 hb
    go_wp2
    go_ret
    exact ⟨rfl, M6.out.bel⟩
  · have HV := hI (divn_v HK.out.1 HK.out.2 h0)
    have hn : ((nq : Int) == 0) = false := by rw [beq_eq_false_iff_ne]; have := (M4.out.p 0 rfl).1.len; have h1 : q.length ≠ 0 := fun k => h0 (List.eq_nil_of_length_eq_zero k); omega
    clear h0
    go_wp2_with fail
    have C := DivMod_any _ _ _ _ _ _ _ _ w4 (M4.out.p 1 rfl).1 (M4.out.p 0 rfl).1 (M4.out.p 1 rfl).2.1 (M4.out.p 0 rfl).2.1 (M4.out.p 1 rfl).2.2 (M4.out.p 0 rfl).2.2
    rw [HV.out.e] at C
    refine C.mono ?_
    clear C
    rintro e w5 ⟨Aa, na, ca, Ar, nr, cr, rfl, hp, hp2, hb⟩
    have hx : Lv.At w5 (.p Aa na ca (pdiv p q).1) := ⟨hp, HV.out.a⟩
    have M5 := hI ((M4.out.on hb).add (x := .p Ar nr cr (pdiv p q).2) ⟨hp2, HV.out.r⟩)
    clear M4 hp hp2 hb
    have M6 := hI (M5.out.add hx)
    clear hx M5
    go_wp2_with fail
    have C := Mul_any _ _ _ _ _ _ _ _ w5 (M6.out.p 0 rfl).1 (M6.out.p 2 rfl).1 (M6.out.p 0 rfl).2.1 (M6.out.p 2 rfl).2.1 (M6.out.p 0 rfl).2.2 (M6.out.p 2 rfl).2.2
    rw [HV.out.m.1] at C
    refine C.mono ?_
    clear C
    rintro e w7 ⟨Ab, nb, cb, rfl, hp, hb⟩
    have M7 := hI ((M6.out.on hb).add (x := .p Ab nb cb (pmul (pdiv p q).1 q)) ⟨hp, HV.out.m.2⟩)
    clear M6 hp hb
    go_wp2_with fail
    have C := Add_any _ _ _ _ _ _ _ _ w7 (M7.out.p 0 rfl).1 (M7.out.p 2 rfl).1 (M7.out.p 0 rfl).2.1 (M7.out.p 2 rfl).2.1 (M7.out.p 0 rfl).2.2 (M7.out.p 2 rfl).2.2
    rw [HV.out.s] at C
    refine C.mono ?_
    clear C
    rintro e w8 ⟨Ac, nc, cc, rfl, hp, hb⟩
    have M8 := hI ((M7.out.on hb).add (x := .p Ac nc cc p) ⟨hp, HK.out.1.ok (by decide)⟩)
    clear M7 hp hb
    have hlt : (nr : Int) < (nq : Int) := by have h1 := (M8.out.p 3 rfl).1.len; have h2 := (M8.out.p 4 rfl).1.len; have := HV.out.lt; omega
    go_wp2_with fail
    refine (same_yes (M8.out.p 0 rfl).1 (M8.out.p 5 rfl).1 (by have := (M8.out.p 0 rfl).2.2; omega)).mono ?_
    rintro e w9 ⟨rfl, hb⟩
    have M10 := hI (M8.out.on hb)
    clear M8 hb
    go_wp2
    go_ret
    exact ⟨rfl, M10.out.bel⟩
end Go.Proofs.YtjbnclfbkccieaaGreatDoor
