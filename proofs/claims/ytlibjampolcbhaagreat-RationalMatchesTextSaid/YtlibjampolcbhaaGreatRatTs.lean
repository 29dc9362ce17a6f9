/-
  Stage 2: the reference's Text and the place of the slash.
-/
import Derived.Deep.LoopGhost
import Derived.Test.YtlibjampolcbhaaGreatRatRb
import Derived.Test.YtlibjampolcbhaaGreatRatTx
import Derived.Test.YtlibjampolcbhaaGreatBaseJ
namespace Go.Proofs.YtlibjampolcbhaaGreat
open Go.RowKit
section
variable {g : Bool} {A : Option Addr} {n c : Nat} {xs : List Nat} {w : World} {z : Int}
theorem rtext_z (h : Sl w w.heap.size A n c xs) (o : ov g xs = some z) (l : List UInt8) (hl : decT z = l) :
    Calls Tryz.prog 85 #[.agg #[.bool g, .slice A n c]] w fun e w' => e = .returned (.tuple #[.string ⟨l.toArray⟩, .int .i64 0]) ∧ Below w.heap.size w w' := by
  have C := rtext_ov (neg := g) h
  rw [o] at C
  rw [← hl]
  exact C
theorem risone_z (h : Sl w w.heap.size A n c xs) (o : ov g xs = some z) (b : Bool) (hb : decide (z = 1) = b) :
    Calls Tryz.prog 60 #[.agg #[.bool g, .slice A n c]] w fun e w' => e = .returned (.bool b) ∧ Below w.heap.size w w' := by
  have C := risone_any g A n c xs w h
  have p := ov_parts o
  have s := ov_sign o
  have e : (!g && (decide (n = 1) && decide (lim xs 0 = 1))) = b := by
    rw [← hb]
    by_cases hz : 0 ≤ z
    · rw [lim_one h.ok p.1 h.len p.2.1 hz, ← s, decide_eq_false (by omega : ¬ z < 0)]; rfl
    · rw [← s, decide_eq_true (by omega : z < 0), decide_eq_false (by omega : ¬ z = 1)]; rfl
  rwa [e] at C
end
set_option linter.unusedSimpArgs false in
set_option maxRecDepth 20000 in
set_option maxHeartbeats 2000000 in
theorem rtextq_bad (p : RVal) (w : World) (ha : p.In w) (hv : (rv p.o p.od).isSome = false) :
    Calls Tryz.prog 43 #[.agg #[.bool p.g, .slice p.A p.n p.c, .bool p.gd, .slice p.Ad p.nd p.cd]] w (RetTx [] 1 w) := by
  have HV := hI hv
  clear hv
  have Ia_0 := hI ha
  clear ha
  have B_0 : Hid (Below w.heap.size w w) := hI (Below.refl _ _)
  go_enter Tryz.func43, Tryz.ntmps43
  go_wp2_with fail
  generalize hW : World.alloc w _ = W1
  have hn := below_new w (.cells #[.bool p.g, .slice p.A p.n p.c, .bool p.gd, .slice p.Ad p.nd p.cd] 27)
  rw [hW] at hn
  have hx : Rb W1 w.heap.size p := by rw [← hW]; exact Rb.new (q := p) Ia_0.out
  have B_1 := hI (below_chain B_0.out B_0.out.size hn)
  generalize hr : w.heap.size = r at *
  have HRr := hI hr
  clear hr
  have Xa_2 : Hid (Rb W1 r p) := hI hx
  clear hn hx hW B_0 Ia_0
  have C := rvalid2 Xa_2.out.sl
  rw [HV.out] at C
  refine C.mono ?_
  clear C
  rintro e w3 ⟨rfl, hb⟩
  have B_3 := hI (bch B_1.out HRr.out hb)
  have Xa_4 := hI (Xa_2.out.on hb)
  clear hb B_1 Xa_2
  go_wp2
  go_ret2
  exact ⟨rfl, (by rw [HRr.out]; exact B_3.out)⟩
set_option linter.unusedSimpArgs false in
set_option maxRecDepth 20000 in
set_option maxHeartbeats 2000000 in
theorem rtextq_true (p : RVal) (w : World) (ha : p.In w) (x : Rat) (ha2 : rv p.o p.od = some x) (l1 l2 : List UInt8) (h1 : decT x.num = l1) (h2 : decT (x.den : Int) = l2) (ho : decide ((x.den : Int) = 1) = true) :
    Calls Tryz.prog 43 #[.agg #[.bool p.g, .slice p.A p.n p.c, .bool p.gd, .slice p.Ad p.nd p.cd]] w (RetTx l1 0 w) := by
  have Va := hI ha2
  have H1 := hI h1
  have H2 := hI h2
  have HO := hI ho
  clear ha2 h1 h2 ho
  have Ia_0 := hI ha
  clear ha
  have B_0 : Hid (Below w.heap.size w w) := hI (Below.refl _ _)
  go_enter Tryz.func43, Tryz.ntmps43
  go_wp2_with fail
  generalize hW : World.alloc w _ = W1
  have hn := below_new w (.cells #[.bool p.g, .slice p.A p.n p.c, .bool p.gd, .slice p.Ad p.nd p.cd] 27)
  rw [hW] at hn
  have hx : Rb W1 w.heap.size p := by rw [← hW]; exact Rb.new (q := p) Ia_0.out
  have B_1 := hI (below_chain B_0.out B_0.out.size hn)
  generalize hr : w.heap.size = r at *
  have HRr := hI hr
  clear hr
  have Xa_2 : Hid (Rb W1 r p) := hI hx
  clear hn hx hW B_0 Ia_0
  have C := rvalid2 Xa_2.out.sl
  rw [isSome_of Va.out] at C
  refine C.mono ?_
  clear C
  rintro e w3 ⟨rfl, hb⟩
  have B_3 := hI (bch B_1.out HRr.out hb)
  have Xa_4 := hI (Xa_2.out.on hb)
  clear hb B_1 Xa_2
  obtain ⟨ka0, ka1, ka2, ka3⟩ := Xa_4.out.cs
  have la := Xa_4.out.lt
  go_wp2_with fail
  refine (rtext_z (g := p.g) Xa_4.out.sl.1 (rv_some Va.out).1 _ H1.out).mono ?_
  clear ka0 ka1 ka2 ka3 la
  rintro e w5 ⟨rfl, hb⟩
  have B_5 := hI (bch B_3.out HRr.out hb)
  have Xa_6 := hI (Xa_4.out.on hb)
  clear hb B_3 Xa_4
  obtain ⟨ka0, ka1, ka2, ka3⟩ := Xa_6.out.cs
  have la := Xa_6.out.lt
  go_wp2_with fail
  refine (risone_z (g := p.gd) Xa_6.out.sl.2 (rv_some Va.out).2 true HO.out).mono ?_
  clear ka0 ka1 ka2 ka3 la
  rintro e w7 ⟨rfl, hb⟩
  have B_7 := hI (bch B_5.out HRr.out hb)
  have Xa_8 := hI (Xa_6.out.on hb)
  clear hb B_5 Xa_6
  go_wp2
  go_ret2
  exact ⟨rfl, (by rw [HRr.out]; exact B_7.out)⟩
set_option linter.unusedSimpArgs false in
set_option maxRecDepth 20000 in
set_option maxHeartbeats 2000000 in
theorem rtextq_false (p : RVal) (w : World) (ha : p.In w) (x : Rat) (ha2 : rv p.o p.od = some x) (l1 l2 : List UInt8) (h1 : decT x.num = l1) (h2 : decT (x.den : Int) = l2) (ho : decide ((x.den : Int) = 1) = false) (_m1 : l1.length ≤ 2000) (_m2 : l2.length ≤ 2000) :
    Calls Tryz.prog 43 #[.agg #[.bool p.g, .slice p.A p.n p.c, .bool p.gd, .slice p.Ad p.nd p.cd]] w (RetTx (l1 ++ 47 :: l2) 0 w) := by
  have Va := hI ha2
  have H1 := hI h1
  have H2 := hI h2
  have HO := hI ho
  clear ha2 h1 h2 ho
  have Ia_0 := hI ha
  clear ha
  have B_0 : Hid (Below w.heap.size w w) := hI (Below.refl _ _)
  go_enter Tryz.func43, Tryz.ntmps43
  go_wp2_with fail
  generalize hW : World.alloc w _ = W1
  have hn := below_new w (.cells #[.bool p.g, .slice p.A p.n p.c, .bool p.gd, .slice p.Ad p.nd p.cd] 27)
  rw [hW] at hn
  have hx : Rb W1 w.heap.size p := by rw [← hW]; exact Rb.new (q := p) Ia_0.out
  have B_1 := hI (below_chain B_0.out B_0.out.size hn)
  generalize hr : w.heap.size = r at *
  have HRr := hI hr
  clear hr
  have Xa_2 : Hid (Rb W1 r p) := hI hx
  clear hn hx hW B_0 Ia_0
  have C := rvalid2 Xa_2.out.sl
  rw [isSome_of Va.out] at C
  refine C.mono ?_
  clear C
  rintro e w3 ⟨rfl, hb⟩
  have B_3 := hI (bch B_1.out HRr.out hb)
  have Xa_4 := hI (Xa_2.out.on hb)
  clear hb B_1 Xa_2
  obtain ⟨ka0, ka1, ka2, ka3⟩ := Xa_4.out.cs
  have la := Xa_4.out.lt
  go_wp2_with fail
  refine (rtext_z (g := p.g) Xa_4.out.sl.1 (rv_some Va.out).1 _ H1.out).mono ?_
  clear ka0 ka1 ka2 ka3 la
  rintro e w5 ⟨rfl, hb⟩
  have B_5 := hI (bch B_3.out HRr.out hb)
  have Xa_6 := hI (Xa_4.out.on hb)
  clear hb B_3 Xa_4
  obtain ⟨ka0, ka1, ka2, ka3⟩ := Xa_6.out.cs
  have la := Xa_6.out.lt
  go_wp2_with fail
  refine (risone_z (g := p.gd) Xa_6.out.sl.2 (rv_some Va.out).2 false HO.out).mono ?_
  clear ka0 ka1 ka2 ka3 la
  rintro e w7 ⟨rfl, hb⟩
  have B_7 := hI (bch B_5.out HRr.out hb)
  have Xa_8 := hI (Xa_6.out.on hb)
  clear hb B_5 Xa_6
  obtain ⟨ka0, ka1, ka2, ka3⟩ := Xa_8.out.cs
  have la := Xa_8.out.lt
  go_wp2_with fail
  refine (rtext_z (g := p.gd) Xa_8.out.sl.2 (rv_some Va.out).2 _ H2.out).mono ?_
  clear ka0 ka1 ka2 ka3 la
  rintro e w9 ⟨rfl, hb⟩
  have B_9 := hI (bch B_7.out HRr.out hb)
  have Xa_10 := hI (Xa_8.out.on hb)
  clear hb B_7 Xa_8
  go_wp2
  go_ret2
  refine ⟨?_, (by rw [HRr.out]; exact B_9.out)⟩
  have e1 : (⟨#[47]⟩ : ByteArray) = ⟨([47] : List UInt8).toArray⟩ := rfl
  rw [e1, cat_arr, cat_arr, List.append_assoc]
  rfl
theorem rtextq_q {p : RVal} {x : Rat} {w : World} (h : p.In w) (hx : rv p.o p.od = some x) : Calls Tryz.prog 43 #[.agg #[.bool p.g, .slice p.A p.n p.c, .bool p.gd, .slice p.Ad p.nd p.cd]] w (RetTx (rtx x) 0 w) := by
  unfold rtx
  by_cases hd : x.den = 1
  · rw [if_pos hd]
    exact rtextq_true p w h x hx _ _ rfl rfl (decide_eq_true (by omega))
  · rw [if_neg hd]
    have o := rv_some hx
    have m1 := decT_len (ov_lt h.1.ok (show ov p.g p.xs = some x.num from o.1))
    have m2 := decT_len (ov_lt h.2.ok (show ov p.gd p.ys = some (x.den : Int) from o.2))
    exact rtextq_false p w h x hx _ _ rfl rfl (decide_eq_false (by omega)) m1 m2
set_option maxRecDepth 20000 in
set_option maxHeartbeats 1000000 in
theorem slash_run (s : ByteArray) (w : World) (K : Nat) (hK : K ≤ s.size) (h1 : ∀ (j : Nat) (h : j < s.size), j < K → s[j].toNat ≠ 47) (h2 : ∀ h : K < s.size, s[K].toNat = 47) (hs : s.size ≤ 140737488351232) :
    Calls Tryz.prog 88 #[.string s] w fun e w' => e = .returned (.int .i64 (K : Int)) ∧ Below w.heap.size w w' := by
  have H1 := hI h1
  have H2 := hI h2
  have HB : Hid (Below w.heap.size w w) := hI (Below.refl _ _)
  clear h1 h2
  go_enter Tryz.func88, Tryz.ntmps88
  go_wp2
  go_loopg [3] K (fun gg s3 wr => ∃ k : Nat, s3 = .int .i64 k ∧ k ≤ K ∧ K - k = gg ∧ wr = w)
  case atStart => exact ⟨0, by go_num, Nat.zero_le _, by omega, rfl⟩
  case round =>
    obtain ⟨k, rfl, hk, rfl, rfl⟩ := hrel
    by_cases hlt : k < s.size
    · have t2 : ((k : Int) < (s.size : Int)) := by omega
      have t0 : (0 : Int) ≤ (k : Int) := by omega
      by_cases hkK : k < K
      · have hne := H1.out k hlt hkK
        have q : (((s[k].toNat : Nat) : Int) == 47) = false := by rw [beq_eq_false_iff_ne]; omega
        clear hne
        go_wp2
        go_roundg (K - (k + 1))
        case measure => omega
        case rel => exact ⟨k + 1, by go_num, by omega, rfl, rfl⟩
      · have e : k = K := by omega
        subst e
        have hne := H2.out hlt
        have q : (((s[k].toNat : Nat) : Int) == 47) = true := by rw [beq_iff_eq]; omega
        clear hne
        go_wp2
        go_ret
        exact ⟨rfl, HB.out⟩
    · have e : k = K := by omega
      have e2 : s.size = K := by omega
      have t2 : ¬ ((k : Int) < (s.size : Int)) := by omega
      go_wp2
      go_ret
      exact ⟨rfl, HB.out⟩
end Go.Proofs.YtlibjampolcbhaaGreat
