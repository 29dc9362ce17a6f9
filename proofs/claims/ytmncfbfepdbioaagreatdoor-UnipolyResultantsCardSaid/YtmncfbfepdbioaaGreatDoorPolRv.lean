/-
 Stage 3: the norm is multiplicative. Stage 3: the values of UnipolyResultants.
-/
import Derived.Test.YtmncfbfepdbioaaGreatDoorPolRn
import Derived.Test.YtmncfbfepdbioaaGreatDoorPolDv
namespace Go.Proofs.YtmncfbfepdbioaaGreatDoor
theorem rat_can {a b c : Rat} (hc : c ≠ 0) (h : a * c = b * c) : a = b := by
 have := congrArg (· * c⁻¹) h
 simp only [Rat.mul_assoc, Rat.mul_inv_cancel _ hc, Rat.mul_one] at this
 exact this
theorem mul_ne {a b : Rat} (ha : a ≠ 0) (hb : b ≠ 0) : a * b ≠ 0 := fun h => by
 rcases Rat.mul_eq_zero.1 h with k | k
 . exact ha k
 . exact hb k
theorem dv_dg {h c : List Rat} (hh : ptrim h = h) (hc : ptrim c = c) (d : Dvp h c) (c0 : c ≠ []) : dg h <= dg c /\ h ≠ [] := by
 obtain ⟨u, _, _, _, h0, l⟩ := dv_len hh hc d c0
 unfold dg
 exact ⟨by omega, h0⟩
theorem dvp_rem {h c p : List Rat} (hc : ptrim c = c) (c0 : c ≠ []) (d : Dvp h c) : Dvp h p ↔ Dvp h (pdiv p c).2 := by
 have e := rem_ev hc c0 p
 obtain ⟨u, hu⟩ := dvp_ev.1 d
 constructor
 . intro k
   obtain ⟨v, hv⟩ := dvp_ev.1 k
   exact dvp_ev.2 ⟨psub v (pmul (pdiv p c).1 u), fun x => by rw [ev_psub, ev_pmul]; have := e x; have := hu x; have := hv x; grind⟩
 . intro k
   obtain ⟨v, hv⟩ := dvp_ev.1 k
   exact dvp_ev.2 ⟨padd v (pmul (pdiv p c).1 u), fun x => by rw [ev_padd, ev_pmul]; have := e x; have := hu x; have := hv x; grind⟩
theorem nm_zero_of : ∀ (n : Nat) (c p h : List Rat), ptrim c = c -> c ≠ [] -> dg c <= n -> ptrim h = h -> dg h ≠ 0 -> Dvp h c -> Dvp h p -> nm c p = 0 := by
 intro n
 induction n with
 | zero =>
   intro c p h hc c0 hn hh h1 d1 d2
   have := (dv_dg hh hc d1 c0).1
   omega
 | succ n ih =>
   intro c p h hc c0 hn hh h1 d1 d2
   have hd := (dv_dg hh hc d1 c0).1
   have z : dg c ≠ 0 := by omega
   by_cases r0 : (pdiv p c).2 = []
   . exact nm_zero z r0
   . have l := rem_dg hc c0 p z
     rw [nm_eq hc c0 z r0, ih (pdiv p c).2 c h (rem_small hc c0 p).2 r0 (by omega) hh h1 ((dvp_rem hc c0 d1).1 d2) d1]
     grind
theorem nm_zero_to : ∀ (n : Nat) (c p : List Rat), ptrim c = c -> c ≠ [] -> dg c <= n -> nm c p = 0 -> ∃ h, ptrim h = h /\ dg h ≠ 0 /\ Dvp h c /\ Dvp h p := by
 intro n
 induction n with
 | zero =>
   intro c p hc c0 hn h
   rw [nm_const (by omega)] at h
   exact absurd h (by decide)
 | succ n ih =>
   intro c p hc c0 hn h
   by_cases z : dg c = 0
   . rw [nm_const z] at h
     exact absurd h (by decide)
   . by_cases r0 : (pdiv p c).2 = []
     . exact ⟨c, hc, z, Dvp.refl c, rest_dv hc c0 r0⟩
     . have l := rem_dg hc c0 p z
       have s := rem_small hc c0 p
       rw [nm_eq hc c0 z r0] at h
       have k : nm (pdiv p c).2 c = 0 := by
        rcases Rat.mul_eq_zero.1 h with y | y
        . exfalso
          rw [Rat.div_def] at y
          rcases Rat.mul_eq_zero.1 y with y | y
          . exact mul_ne (m1_ne _) (qpow_ne (lc_ne s.2 r0) _) y
          . have := Rat.mul_inv_cancel _ (qpow_ne (lc_ne hc c0) (dg (pdiv p c).2))
            rw [y] at this
            grind
        . exact y
       obtain ⟨q, q1, q2, q3, q4⟩ := ih _ c s.2 r0 (by omega) k
       exact ⟨q, q1, q2, q4, (dvp_rem hc c0 q4).2 q3⟩
def Cop (c a : List Rat) : Prop := ∃ s t : List Rat, ∀ x, ev s x * ev a x + ev t x * ev c x = 1
theorem cop_of {c a : List Rat} (hc : ptrim c = c) (ha : ptrim a = a) (c0 : c ≠ []) (h : nm c a ≠ 0) : Cop c a := by
 have G := pgcd_gcd c.length a c ha hc (Nat.le_refl _)
 generalize pgcd c.length a c = g at G
 have g0 : g ≠ [] := (dv_dg G.trim hc G.right c0).2
 have gd : dg g = 0 := by
  rcases Nat.eq_zero_or_pos (dg g) with z | z
  . exact z
  . exact absurd (nm_zero_of _ c a g hc c0 (Nat.le_refl _) G.trim (by omega) G.right G.left) h
 have e := const_of g0 gd
 have l : lc g = 1 := G.lead.resolve_left g0
 rw [l] at e
 obtain ⟨u, v, huv⟩ := G.comb
 refine ⟨u, v, fun x => ?_⟩
 have e1 := ev_sum (p := pmul u a) (q := pmul v c) (r := g) (fun i => by rw [pmul_coef, pmul_coef]; exact huv i) x
 rw [ev_pmul, ev_pmul, e, ev_const] at e1
 exact e1.symm
theorem cop_mul {c a b : List Rat} (h : Cop c a) (k : Cop c b) : Cop c (pmul a b) := by
 obtain ⟨s, t, h⟩ := h
 obtain ⟨u, v, k⟩ := k
 refine ⟨pmul s u, padd (pmul (pmul s a) v) t, fun x => ?_⟩
 have h1 := h x
 have k1 := k x
 rw [ev_pmul, ev_pmul, ev_padd, ev_pmul, ev_pmul]
 have : ev s x * ev u x * (ev a x * ev b x) + (ev s x * ev a x * ev v x + ev t x) * ev c x = (ev s x * ev a x) * (ev u x * ev b x + ev v x * ev c x) + ev t x * ev c x := by grind
 rw [this, k1]
 grind
theorem cop_none {c a h : List Rat} (hh : ptrim h = h) (k : Cop c a) (d1 : Dvp h c) (d2 : Dvp h a) : dg h = 0 := by
 obtain ⟨s, t, k⟩ := k
 obtain ⟨u, hu⟩ := dvp_ev.1 d1
 obtain ⟨v, hv⟩ := dvp_ev.1 d2
 have one : ptrim [(1 : Rat)] = [1] := rfl
 have d : Dvp h [1] := dvp_ev.2 ⟨padd (pmul s v) (pmul t u), fun x => by rw [ev_const, ev_padd, ev_pmul, ev_pmul]; have := k x; have := hu x; have := hv x; grind⟩
 have := (dv_dg hh one d (by simp)).1
 have e : dg [(1 : Rat)] = 0 := rfl
 omega
theorem nm_prod_zero {c a b : List Rat} (hc : ptrim c = c) (ha : ptrim a = a) (hb : ptrim b = b) (c0 : c ≠ []) (z : dg c ≠ 0) (d : Dvp c (pmul a b)) : nm c a = 0 \/ nm c b = 0 := by
 by_cases h : nm c a = 0
 . exact Or.inl h
 . by_cases k : nm c b = 0
   . exact Or.inr k
   . exact absurd (cop_none hc (cop_mul (cop_of hc ha c0 h) (cop_of hc hb c0 k)) (Dvp.refl c) d) z
theorem nm_one {c a : List Rat} (hc : ptrim c = c) (ha : ptrim a = a) (c0 : c ≠ []) (a0 : a ≠ []) (h : dg a = 0) : nm c a = lc a ^ dg c := by
 have := nm_swap hc ha c0 a0
 rw [h, nm_const h, Rat.pow_zero, m1_even (by simp)] at this
 grind
def Mu (c a b : List Rat) : Prop := nm c (pmul a b) = nm c a * nm c b
def Mv (c a b : List Rat) : Prop := nm (pmul a b) c = nm a c * nm b c
theorem mu_mv {c a b : List Rat} (hc : ptrim c = c) (ha : ptrim a = a) (hb : ptrim b = b) (c0 : c ≠ []) (a0 : a ≠ []) (b0 : b ≠ []) : Mu c a b ↔ Mv c a b := by
 have ab0 := pmul_ne a0 b0
 have hab := pmul_trim ha hb
 have f := nm_swap hc hab c0 ab0
 have fa := nm_swap hc ha c0 a0
 have fb := nm_swap hc hb c0 b0
 rw [dg_mul a0 b0, lc_mul a0 b0, Nat.mul_add, m1_add, qpow_add, qpow_mul] at f
 have ca := qpow_ne (lc_ne hc c0) (dg a)
 have cb := qpow_ne (lc_ne hc c0) (dg b)
 have la := qpow_ne (lc_ne ha a0) (dg c)
 have lb := qpow_ne (lc_ne hb b0) (dg c)
 have sa := m1_ne (dg c * dg a)
 have sb := m1_ne (dg c * dg b)
 unfold Mu Mv
 generalize lc c ^ dg a = CA at *
 generalize lc c ^ dg b = CB at *
 generalize lc a ^ dg c = LA at *
 generalize lc b ^ dg c = LB at *
 generalize m1 (dg c * dg a) = SA at *
 generalize m1 (dg c * dg b) = SB at *
 have prod : (nm c a * nm c b) * (CA * CB) = (nm a c * nm b c) * (SA * SB * (LA * LB)) := by
  have : (nm c a * nm c b) * (CA * CB) = (nm c a * CA) * (nm c b * CB) := by grind
  rw [this, fa, fb]
  grind
 have f2 : nm c (pmul a b) * (CA * CB) = nm (pmul a b) c * (SA * SB * (LA * LB)) := by rw [f]; grind
 constructor
 . intro h
   refine rat_can (mul_ne (mul_ne sa sb) (mul_ne la lb)) ?_
   rw [<- f2, h, prod]
 . intro h
   refine rat_can (mul_ne ca cb) ?_
   rw [f2, h, prod]
theorem dvp_left (a b : List Rat) : Dvp a (pmul a b) := dvp_ev.2 ⟨b, fun x => by rw [ev_pmul]; grind⟩
theorem dvp_right (a b : List Rat) : Dvp b (pmul a b) := dvp_ev.2 ⟨a, fun x => by rw [ev_pmul]⟩
theorem mu_low {c a b : List Rat} (hc : ptrim c = c) (ha : ptrim a = a) (hb : ptrim b = b) (c0 : c ≠ []) (a0 : a ≠ []) (b0 : b ≠ []) (hd : dg a + dg b < dg c)
 (ih : ∀ s : List Rat, ptrim s = s -> s ≠ [] -> dg s < dg c -> Mu s a b) : Mu c a b := by
 have ab0 := pmul_ne a0 b0
 have hab := pmul_trim ha hb
 have dab := dg_mul a0 b0
 by_cases z : dg (pmul a b) = 0
 . unfold Mu
   rw [nm_one hc hab c0 ab0 z, nm_one hc ha c0 a0 (by omega), nm_one hc hb c0 b0 (by omega), lc_mul a0 b0, qpow_mul]
 . have s := rem_small hab ab0 c
   by_cases r0 : (pdiv c (pmul a b)).2 = []
   . have d := rest_dv hab ab0 r0
     have e1 := nm_zero_of _ c (pmul a b) _ hc c0 (Nat.le_refl _) hab z d (Dvp.refl _)
     unfold Mu
     rw [e1]
     by_cases za : dg a = 0
     . have e2 := nm_zero_of _ c b _ hc c0 (Nat.le_refl _) hb (by omega) ((dvp_right a b).trans d) (Dvp.refl _)
       rw [e2]; grind
     . have e2 := nm_zero_of _ c a _ hc c0 (Nat.le_refl _) ha za ((dvp_left a b).trans d) (Dvp.refl _)
       rw [e2]; grind
   . have l := rem_dg hab ab0 c z
     have m := ih _ s.2 r0 (by omega)
     rw [mu_mv s.2 ha hb r0 a0 b0] at m
     rw [mu_mv hc ha hb c0 a0 b0]
     have e := rem_ev hab ab0 c
     unfold Mv at *
     rw [nm_cg hab ab0 (cg_rem hab ab0 c), m]
     rw [nm_cg ha a0 (p := c) (r := (pdiv c (pmul a b)).2) ⟨pmul (pdiv c (pmul a b)).1 b, fun x => by rw [e x, ev_pmul, ev_pmul]; grind⟩]
     rw [nm_cg hb b0 (p := c) (r := (pdiv c (pmul a b)).2) ⟨pmul (pdiv c (pmul a b)).1 a, fun x => by rw [e x, ev_pmul, ev_pmul]; grind⟩]
theorem ev_dvp {h p : List Rat} (hh : ptrim h = h) (hp : ptrim p = p) (d : Dvp h p) (p0 : p ≠ []) : ∃ u, ptrim u = u /\ u ≠ [] /\ h ≠ [] /\ pmul u h = p /\ dg p = dg u + dg h := by
 obtain ⟨u, u1, u2, u3, h0, l⟩ := dv_len hh hp d p0
 refine ⟨u, u1, u3, h0, u2, ?_⟩
 rw [<- u2, dg_mul u3 h0]
structure Spl (c a b u r : List Rat) : Prop where
 ut : ptrim u = u
 u0 : u ≠ []
 rt : ptrim r = r
 r0 : r ≠ []
 e : ∀ x, ev a x * ev b x = ev u x * ev c x + ev r x
 d : dg u + dg c = dg a + dg b
 l : dg r < dg c
section
variable {c a b u r : List Rat}
theorem mu_plain (hc : ptrim c = c) (ha : ptrim a = a) (hb : ptrim b = b) (c0 : c ≠ []) (a0 : a ≠ []) (b0 : b ≠ []) (S : Spl c a b u r) (hu : nm u r ≠ 0) (hl : lc a * lc b = lc u * lc c)
 (ma : Mu a u c) (mb : Mu b u c) (mu : Mu u a b) (mr : Mu r a b) (mr2 : Mu r u c) : Mu c a b := by
 have hab := pmul_trim ha hb
 have ab0 := pmul_ne a0 b0
 have huc := pmul_trim S.ut hc
 have uc0 := pmul_ne S.u0 c0
 have dab := dg_mul a0 b0
 have duc := dg_mul S.u0 c0
 have lab := lc_mul a0 b0
 have luc := lc_mul S.u0 c0
 have mn : (-1 : Rat) ≠ 0 := by decide
 have ea : nm a (pmul u c) = m1 (dg a) * nm a r := by
  rw [nm_cg ha a0 (p := pmul u c) (r := sc (-1) r) ⟨b, fun x => by rw [ev_pmul, sc_ev]; have := S.e x; grind⟩, (nm_sc _ a r (-1) mn ha a0 (Nat.le_refl _)).1]
  rfl
 have eb : nm b (pmul u c) = m1 (dg b) * nm b r := by
  rw [nm_cg hb b0 (p := pmul u c) (r := sc (-1) r) ⟨a, fun x => by rw [ev_pmul, sc_ev]; have := S.e x; grind⟩, (nm_sc _ b r (-1) mn hb b0 (Nat.le_refl _)).1]
  rfl
 rw [show nm a (pmul u c) = nm a u * nm a c from ma] at ea
 rw [show nm b (pmul u c) = nm b u * nm b c from mb] at eb
 have eu : nm u (pmul a b) = nm u r := nm_cg S.ut S.u0 ⟨c, fun x => by rw [ev_pmul]; have := S.e x; grind⟩
 have er : nm r (pmul a b) = nm r (pmul u c) := nm_cg S.rt S.r0 ⟨[1], fun x => by rw [ev_pmul, ev_pmul, ev_const]; have := S.e x; grind⟩
 have vu : nm (pmul a b) u = nm a u * nm b u := (mu_mv S.ut ha hb S.u0 a0 b0).1 mu
 have vr : nm (pmul a b) r = nm a r * nm b r := (mu_mv S.rt ha hb S.r0 a0 b0).1 mr
 have vr2 : nm (pmul u c) r = nm u r * nm c r := (mu_mv S.rt S.ut hc S.r0 S.u0 c0).1 mr2
 have f1 := nm_swap S.ut hab S.u0 ab0
 have f2 := nm_swap S.rt hab S.r0 ab0
 have f3 := nm_swap S.rt huc S.r0 uc0
 rw [er] at f2
 rw [dab] at f1 f2
 rw [duc, S.d] at f3
 rw [lab, hl] at f1 f2
 rw [luc] at f3
 have lrn := qpow_ne (lc_ne S.rt S.r0) (dg a + dg b)
 have lun := lc_ne S.ut S.u0
 have lcn := lc_ne hc c0
 have e5 : nm (pmul a b) r = nm u r * nm c r := by
  rw [<- vr2]
  have h5 : m1 (dg r * (dg a + dg b)) * nm (pmul a b) r * (lc u * lc c) ^ dg r = m1 (dg r * (dg a + dg b)) * nm (pmul u c) r * (lc u * lc c) ^ dg r := by rw [<- f2, <- f3]
  have n5 := qpow_ne (mul_ne lun lcn) (dg r)
  have := rat_can n5 h5
  refine rat_can (m1_ne (dg r * (dg a + dg b))) ?_
  grind
 have e6 : nm (pmul a b) u * (nm a c * nm b c) = m1 (dg a + dg b) * (nm u r * nm c r) := by
  rw [vu, m1_add, <- e5, vr]
  have : nm a u * nm b u * (nm a c * nm b c) = (nm a u * nm a c) * (nm b u * nm b c) := by grind
  rw [this, ea, eb]
  grind
 rw [eu] at f1
 have fc := nm_cg hc c0 (p := pmul a b) (r := r) ⟨u, fun x => by rw [ev_pmul]; exact S.e x⟩
 unfold Mu
 rw [fc]
 have ga := nm_swap hc ha c0 a0
 have gb := nm_swap hc hb c0 b0
 have g : (nm c a * nm c b) * lc c ^ (dg a + dg b) = m1 (dg c * (dg a + dg b)) * (nm a c * nm b c) * (lc u * lc c) ^ dg c := by
  rw [<- hl, qpow_add, Nat.mul_add, m1_add, qpow_mul]
  have : nm c a * nm c b * (lc c ^ dg a * lc c ^ dg b) = (nm c a * lc c ^ dg a) * (nm c b * lc c ^ dg b) := by grind
  rw [this, ga, gb]
  grind
 have sgn : m1 (dg u * (dg a + dg b)) * m1 (dg c * (dg a + dg b)) * m1 (dg a + dg b) = 1 := by
  rw [<- m1_add, <- m1_add, <- Nat.add_mul, S.d]
  refine m1_even ?_
  rw [Nat.add_mod, par_mul]
  rcases Nat.mod_two_eq_zero_or_one (dg a + dg b) with y | y <;> rw [y]
 have pw : (lc u * lc c) ^ dg u * (lc u * lc c) ^ dg c = lc u ^ (dg a + dg b) * lc c ^ (dg a + dg b) := by rw [<- qpow_add, S.d, qpow_mul]
 have n1 := qpow_ne lun (dg a + dg b)
 have n2 := qpow_ne lcn (dg a + dg b)
 have s1 := m1_two (dg u * (dg a + dg b))
 refine rat_can (mul_ne (mul_ne hu (mul_ne n1 n2)) (m1_ne (dg u * (dg a + dg b)))) ?_
 generalize lc u ^ (dg a + dg b) = LU at *
 generalize lc c ^ (dg a + dg b) = LC at *
 generalize (lc u * lc c) ^ dg u = PU at *
 generalize (lc u * lc c) ^ dg c = PC at *
 generalize m1 (dg u * (dg a + dg b)) = SU at *
 generalize m1 (dg c * (dg a + dg b)) = SC at *
 generalize m1 (dg a + dg b) = SN at *
 generalize nm (pmul a b) u = Y at *
 generalize nm a c * nm b c = X at *
 generalize nm c a * nm c b = W at *
 generalize nm u r = R at *
 generalize nm c r = T at *
 have : W * (R * (LU * LC) * SU) = (W * LC) * (R * LU) * SU := by grind
 rw [this, g, f1]
 have : SC * X * PC * (SU * Y * PU) * SU = (SU * SU) * SC * (Y * X) * (PU * PC) := by grind
 rw [this, e6, pw, s1]
 have : (1 : Rat) * SC * (SN * (R * T)) * (LU * LC) = (SC * SN) * (T * (R * (LU * LC))) := by grind
 rw [this]
 have : SC * SN = SU := by
  have : SU * (SU * SC * SN) = (SU * SU) * (SC * SN) := by grind
  rw [sgn, s1] at this
  grind
 rw [this]
 grind
theorem mu_part (hc : ptrim c = c) (ha : ptrim a = a) (hb : ptrim b = b) (c0 : c ≠ []) (a0 : a ≠ []) (b0 : b ≠ []) (S : Spl c a b u r) {h : List Rat} (hh : ptrim h = h) (h1 : dg h ≠ 0) (du : Dvp h u) (dr : Dvp h r) (da : Dvp h a) (la : dg a < dg c) (lb : dg b < dg c)
 (ih : ∀ x y : List Rat, ptrim x = x -> ptrim y = y -> x ≠ [] -> y ≠ [] -> dg x < dg c -> dg y < dg c -> dg x + dg y < dg a + dg b -> Mu c x y) : Mu c a b := by
 obtain ⟨a', ta, na, h0, ea, ga⟩ := ev_dvp hh ha da a0
 obtain ⟨u', tu, nu, _, eu, gu⟩ := ev_dvp hh S.ut du S.u0
 obtain ⟨r', tr, nr, _, er, gr⟩ := ev_dvp hh S.rt dr S.r0
 have Sl := S.l
 have Sd := S.d
 have m1' := ih a' b ta hb na b0 (by omega) lb (by omega)
 have m2 := ih a' h ta hh na h0 (by omega) (by omega) (by omega)
 have m3 := ih r' h tr hh nr h0 (by omega) (by omega) (by omega)
 have k : pmul a' b = padd (pmul u' c) r' := by
  refine pmul_cancel (pmul_trim ta hb) (padd_trim _ _) hh h0 ?_
  refine ev_eq (pmul_trim (pmul_trim ta hb) hh) (pmul_trim (padd_trim _ _) hh) fun x => ?_
  have e := S.e x
  rw [<- ea, <- eu, <- er, ev_pmul, ev_pmul, ev_pmul] at e
  rw [ev_pmul, ev_pmul, ev_pmul, ev_padd, ev_pmul]
  grind
 have g1 : nm c (pmul a' b) = nm c r' := nm_cg hc c0 ⟨u', fun x => by rw [k, ev_padd, ev_pmul]⟩
 have g2 : nm c (pmul a b) = nm c r := nm_cg hc c0 ⟨u, fun x => by rw [ev_pmul]; exact S.e x⟩
 unfold Mu at *
 rw [ea] at m2
 rw [er] at m3
 rw [g2, m3, <- g1, m1', m2]
 grind
end
theorem mu_swap {c a b : List Rat} (ha : ptrim a = a) (hb : ptrim b = b) (h : Mu c b a) : Mu c a b := by
 unfold Mu at *
 rw [pmul_comm ha hb, h]
 grind
theorem nm_mul : ∀ (n : Nat) (c a b : List Rat), ptrim c = c -> ptrim a = a -> ptrim b = b -> c ≠ [] -> a ≠ [] -> b ≠ [] -> dg c <= n -> Mu c a b := by
 intro n
 induction n with
 | zero =>
   intro c a b hc ha hb c0 a0 b0 hn
   unfold Mu
   rw [nm_const (by omega), nm_const (by omega), nm_const (by omega)]
   grind
 | succ n ih =>
   intro c a b hc ha hb c0 a0 b0 hn
   by_cases z : dg c = 0
   . unfold Mu
     rw [nm_const z, nm_const z, nm_const z]
     grind
   have low : ∀ s : List Rat, ptrim s = s -> s ≠ [] -> dg s < dg c -> ∀ x y : List Rat, ptrim x = x -> ptrim y = y -> x ≠ [] -> y ≠ [] -> Mu s x y := fun s hs s0 l x y hx hy x0 y0 => ih s x y hs hx hy s0 x0 y0 (by omega)
   have inner : ∀ (k : Nat) (a b : List Rat), ptrim a = a -> ptrim b = b -> a ≠ [] -> b ≠ [] -> dg a < dg c -> dg b < dg c -> dg a + dg b <= k -> Mu c a b := by
    intro k
    induction k with
    | zero =>
      intro a b ha hb a0 b0 la lb hk
      exact mu_low hc ha hb c0 a0 b0 (by omega) fun s hs s0 l => low s hs s0 l a b ha hb a0 b0
    | succ k ihk =>
      intro a b ha hb a0 b0 la lb hk
      by_cases hd : dg a + dg b < dg c
      . exact mu_low hc ha hb c0 a0 b0 hd fun s hs s0 l => low s hs s0 l a b ha hb a0 b0
      . have hab := pmul_trim ha hb
        have ab0 := pmul_ne a0 b0
        have dab := dg_mul a0 b0
        have s := rem_small hc c0 (pmul a b)
        have e := rem_ev hc c0 (pmul a b)
        by_cases r0 : (pdiv (pmul a b) c).2 = []
        . have d := rest_dv hc c0 r0
          unfold Mu
          rw [nm_zero z r0]
          rcases nm_prod_zero hc ha hb c0 z d with y | y <;> rw [y] <;> grind
        . have l := rem_dg hc c0 (pmul a b) z
          have tq := pdiv_quot_trim hab hc c0
          have ql := pdiv_size (pmul a b) c
          have al := len_pos ab0
          have cl := len_pos c0
          have q0 : (pdiv (pmul a b) c).1 ≠ [] := fun y => by
           rw [y] at ql
           simp at ql
           unfold dg at dab hd
           omega
          have dq : dg (pdiv (pmul a b) c).1 + dg c = dg a + dg b := by
           rw [<- dab]
           unfold dg at *
           omega
          have S : Spl c a b (pdiv (pmul a b) c).1 (pdiv (pmul a b) c).2 := ⟨tq, q0, s.2, r0, fun x => by rw [<- ev_pmul]; exact e x, dq, l⟩
          generalize (pdiv (pmul a b) c).1 = u at *
          generalize (pdiv (pmul a b) c).2 = r at *
          by_cases hu : nm u r = 0
          . obtain ⟨h, hh, h1, d1, d2⟩ := nm_zero_to _ u r S.ut S.u0 (Nat.le_refl _) hu
            have h0 := (dv_dg hh S.ut d1 S.u0).2
            have d3 : Dvp h (pmul a b) := by
             obtain ⟨v, hv⟩ := dvp_ev.1 d1
             obtain ⟨w, hw⟩ := dvp_ev.1 d2
             exact dvp_ev.2 ⟨padd (pmul v c) w, fun x => by rw [e x, ev_padd, ev_pmul, hv x, hw x]; grind⟩
            have ihs : ∀ x y : List Rat, ptrim x = x -> ptrim y = y -> x ≠ [] -> y ≠ [] -> dg x < dg c -> dg y < dg c -> dg x + dg y < dg a + dg b -> Mu c x y := fun x y hx hy x0 y0 lx ly hxy => ihk x y hx hy x0 y0 lx ly (by omega)
            rcases nm_prod_zero hh ha hb h0 h1 d3 with y | y
            . obtain ⟨g, hg, g1, d4, d5⟩ := nm_zero_to _ h a hh h0 (Nat.le_refl _) y
              exact mu_part hc ha hb c0 a0 b0 S hg g1 (d4.trans d1) (d4.trans d2) d5 la lb ihs
            . obtain ⟨g, hg, g1, d4, d5⟩ := nm_zero_to _ h b hh h0 (Nat.le_refl _) y
              have S' : Spl c b a u r := ⟨S.ut, S.u0, S.rt, S.r0, fun x => by rw [<- S.e x]; grind, by have := S.d; omega, S.l⟩
              exact mu_swap ha hb (mu_part hc hb ha c0 b0 a0 S' hg g1 (d4.trans d1) (d4.trans d2) d5 lb la fun x y hx hy x0 y0 lx ly hxy => ihs x y hx hy x0 y0 lx ly (by omega))
          . have huc := pmul_trim S.ut hc
            have uc0 := pmul_ne S.u0 c0
            have duc := dg_mul S.u0 c0
            have hl : lc a * lc b = lc u * lc c := by
             rw [<- lc_mul a0 b0, <- lc_mul S.u0 c0]
             have e7 := ev_coef (p := pmul a b) (q := padd (pmul u c) r) (fun x => by rw [e x, ev_padd, ev_pmul]) (dg (pmul a b))
             unfold lc
             rw [e7, padd_coef, duc, S.d, dab]
             have : coef r (dg a + dg b) = 0 := coef_past (by unfold dg at *; omega)
             rw [this]
             grind
            exact mu_plain hc ha hb c0 a0 b0 S hu hl (low a ha a0 la u c S.ut hc S.u0 c0) (low b hb b0 lb u c S.ut hc S.u0 c0) (low u S.ut S.u0 (by omega) a b ha hb a0 b0) (low r S.rt S.r0 l a b ha hb a0 b0) (low r S.rt S.r0 l u c S.ut hc S.u0 c0)
   have sa := rem_small hc c0 a
   have sb := rem_small hc c0 b
   have ra := rem_ev hc c0 a
   have rb := rem_ev hc c0 b
   by_cases a1 : (pdiv a c).2 = []
   . have d : Dvp c (pmul a b) := (rest_dv hc c0 a1).trans (dvp_left a b)
     unfold Mu
     rw [nm_zero z a1, nm_zero z (rest_zero hc c0 d)]
     grind
   . by_cases b1 : (pdiv b c).2 = []
     . have d : Dvp c (pmul a b) := (rest_dv hc c0 b1).trans (dvp_right a b)
       unfold Mu
       rw [nm_zero z b1, nm_zero z (rest_zero hc c0 d)]
       grind
     . have m := inner _ _ _ sa.2 sb.2 a1 b1 (rem_dg hc c0 a z) (rem_dg hc c0 b z) (Nat.le_refl _)
       have g : nm c (pmul a b) = nm c (pmul (pdiv a c).2 (pdiv b c).2) := nm_cg hc c0 ⟨padd (padd (pmul (pmul (pdiv a c).1 (pdiv b c).1) c) (pmul (pdiv a c).1 (pdiv b c).2)) (pmul (pdiv a c).2 (pdiv b c).1), fun x => by
        rw [ev_pmul, ev_pmul, ev_padd, ev_padd, ev_pmul, ev_pmul, ev_pmul, ev_pmul, ra x, rb x]
        grind⟩
       unfold Mu at *
       rw [g, m, <- nm_cg hc c0 (cg_rem hc c0 a), <- nm_cg hc c0 (cg_rem hc c0 b)]
end Go.Proofs.YtmncfbfepdbioaaGreatDoor
namespace Go.Proofs.YtmncfbfepdbioaaGreatDoor
def rsl (p q : List Rat) : Rat := if p = [] \/ q = [] then 0 else lc p ^ dg q * nm p q
theorem ppow_pow (a : Rat) : ∀ n, ppow a n = a ^ n
 | 0 => by rw [Rat.pow_zero]; rfl
 | n + 1 => by rw [ppow_succ, ppow_pow a n, Rat.pow_succ]
theorem m1_if (k : Nat) (v : Rat) : (if k % 2 = 1 then 0 - v else v) = m1 k * v := by
 by_cases e : k % 2 = 1
 . rw [if_pos e, m1_odd e]; grind
 . rw [if_neg e, m1_even (by omega)]; grind
theorem pres_rsl : ∀ (g : Nat) (p q : List Rat), ptrim p = p -> ptrim q = q -> resN p q <= g -> pres g p q = rsl p q := by
 intro g
 induction g with
 | zero => intro p q _ _ h; unfold resN at h; split at h <;> omega
 | succ g ih =>
   intro p q hp hq hg
   unfold rsl
   by_cases h0 : p = [] \/ q = []
   . rw [if_pos h0, pres_nil (by rcases h0 with e | e <;> simp [e])]
   . rw [if_neg h0]
     have p0 : p ≠ [] := fun e => h0 (Or.inl e)
     have q0 : q ≠ [] := fun e => h0 (Or.inr e)
     have pl := len_pos p0
     have ql := len_pos q0
     have sw := nm_swap hp hq p0 q0
     by_cases h1 : q.length = 1
     . have z : dg q = 0 := by unfold dg; omega
       rw [pres_one pl h1, ppow_pow, nm_one hp hq p0 q0 z, z, Rat.pow_zero]
       have : coef q 0 = lc q := by unfold lc; rw [z]
       rw [this]
       show lc q ^ dg p = _
       grind
     . have fin : lc p ^ dg q * nm p q = m1 ((p.length - 1) * (q.length - 1)) * (lc q ^ dg p * nm q p) := by
        show _ = m1 (dg p * dg q) * _
        have : lc p ^ dg q * nm p q = nm p q * lc p ^ dg q := by grind
        rw [this, sw]
        grind
       by_cases hl : p.length < q.length
       . unfold resN at hg
         rw [if_pos hl] at hg
         have i := ih q p hq hp (by unfold resN; rw [if_neg (by omega)]; omega)
         unfold rsl at i
         rw [if_neg (fun e => h0 e.symm)] at i
         rw [pres_lt pl (by omega) hl, m1_if, i, fin]
       . unfold resN at hg
         rw [if_neg hl] at hg
         have z : dg q ≠ 0 := by unfold dg; omega
         by_cases r0 : (pdiv p q).2 = []
         . rw [pres_ge0 (by omega) (by omega) (by rw [r0]; rfl), fin, nm_zero z r0]
           grind
         . have s := rem_small hq q0 p
           have rl := len_pos r0
           have i := ih q (pdiv p q).2 hq s.2 (by unfold resN; rw [if_neg (by omega)]; omega)
           unfold rsl at i
           rw [if_neg (fun e => e.elim q0 r0)] at i
           rw [pres_ge (by omega) (by omega) rl, m1_if, i, ppow_pow, fin, nm_cg hq q0 (cg_rem hq q0 p)]
           show _ * (lc q ^ (dg p - dg (pdiv p q).2) * (lc q ^ dg (pdiv p q).2 * _)) = _
           have e : lc q ^ (dg p - dg (pdiv p q).2) * lc q ^ dg (pdiv p q).2 = lc q ^ dg p := by
            rw [<- qpow_add]
            congr 1
            unfold dg
            omega
           rw [<- Rat.mul_assoc (lc q ^ (dg p - dg (pdiv p q).2)), e]
theorem pmul_nil_left (q : List Rat) : pmul [] q = [] := by unfold pmul; exact if_pos (Or.inl rfl)
theorem pmul_nil_right (p : List Rat) : pmul p [] = [] := by unfold pmul; exact if_pos (Or.inr rfl)
theorem rsl_mul {a b c : List Rat} (ha : ptrim a = a) (hb : ptrim b = b) (hc : ptrim c = c) : rsl (pmul a b) c = rsl a c * rsl b c := by
 unfold rsl
 by_cases a0 : a = []
 . subst a0
   rw [pmul_nil_left, if_pos (Or.inl rfl)]
   grind
 by_cases b0 : b = []
 . subst b0
   rw [pmul_nil_right, if_pos (Or.inl rfl)]
   grind
 by_cases c0 : c = []
 . rw [if_pos (Or.inr c0), if_pos (Or.inr c0)]
   grind
 rw [if_neg (fun e => e.elim (pmul_ne a0 b0) c0), if_neg (fun e => e.elim a0 c0), if_neg (fun e => e.elim b0 c0)]
 have m := (mu_mv hc ha hb c0 a0 b0).1 (nm_mul _ c a b hc ha hb c0 a0 b0 (Nat.le_refl _))
 unfold Mv at m
 rw [m, lc_mul a0 b0, qpow_mul]
 grind
theorem nm_lin {c : List Rat} (r : Rat) : nm (lin r) c = ev c r := by
 have lt := lin_trim r
 have l0 := lin_ne r
 have z : dg (lin r) ≠ 0 := by show (1 : Nat) ≠ 0; decide
 have e : (pdiv c (lin r)).2 = ptrim [ev c r] := pdiv_lin r
 by_cases h : ev c r = 0
 . rw [h] at e
   rw [nm_zero z (by rw [e]; rfl), h]
 . have t : ptrim [ev c r] = [ev c r] := trim_iff.2 (Or.inr h)
   rw [nm_cg lt l0 (cg_rem lt l0 c), e, t, nm_one lt t l0 (by simp) rfl]
   show (ev c r) ^ 1 = _
   rw [Rat.pow_succ, Rat.pow_zero]
   grind
def pf (f : Nat -> Rat) : Nat -> List Rat
 | 0 => [1]
 | n + 1 => pmul (pf f n) (lin (f n))
theorem pf_ne (f : Nat -> Rat) : ∀ n, pf f n ≠ []
 | 0 => by simp [pf]
 | n + 1 => pmul_ne (pf_ne f n) (lin_ne _)
theorem pf_trim (f : Nat -> Rat) : ∀ n, ptrim (pf f n) = pf f n
 | 0 => rfl
 | n + 1 => pmul_trim (pf_trim f n) (lin_trim _)
theorem pf_lc (f : Nat -> Rat) : ∀ n, lc (pf f n) = 1
 | 0 => rfl
 | n + 1 => by
   show lc (pmul (pf f n) (lin (f n))) = 1
   rw [lc_mul (pf_ne f n) (lin_ne _), pf_lc f n]
   show 1 * (1 : Rat) = 1
   grind
def dw (h : Nat -> Rat) (w r : Rat) : Nat -> Rat
 | 0 => w
 | m + 1 => dw h w r m * (r - h m)
def ws (f h : Nat -> Rat) (m : Nat) : Nat -> Rat
 | 0 => 1
 | n + 1 => dw h (ws f h m n) (f n) m
theorem dw_ev (h : Nat -> Rat) (w r : Rat) : ∀ m, dw h w r m = w * ev (pf h m) r
 | 0 => by show w = w * ev [1] r; rw [ev_const]; grind
 | m + 1 => by
   show dw h w r m * (r - h m) = w * ev (pmul (pf h m) (lin (h m))) r
   rw [dw_ev h w r m, ev_pmul, ev_lin]
   grind
theorem pow_one' (n : Nat) : (1 : Rat) ^ n = 1 := by
 induction n with
 | zero => rw [Rat.pow_zero]
 | succ n ih => rw [Rat.pow_succ, ih]; grind
theorem rsl_roots (f h : Nat -> Rat) (m : Nat) : ∀ n, rsl (pf f n) (pf h m) = ws f h m n
 | 0 => by
   unfold rsl
   rw [if_neg (fun e => e.elim (pf_ne f 0) (pf_ne h m)), pf_lc, pow_one', nm_const rfl]
   show (1 : Rat) * 1 = 1
   grind
 | n + 1 => by
   show rsl (pmul (pf f n) (lin (f n))) (pf h m) = dw h (ws f h m n) (f n) m
   rw [rsl_mul (pf_trim f n) (lin_trim _) (pf_trim h m), rsl_roots f h m n, dw_ev]
   have : rsl (lin (f n)) (pf h m) = ev (pf h m) (f n) := by
    unfold rsl
    rw [if_neg (fun e => e.elim (lin_ne _) (pf_ne h m)), nm_lin]
    show (1 : Rat) ^ _ * _ = _
    rw [pow_one']
    grind
   rw [this]
structure Kpf (f : Nat -> Int) (n B : Nat) : Prop where
 len : (pf (fun i => (f i : Rat)) n).length <= n + 1
 b : IbL B (pf (fun i => (f i : Rat)) n)
theorem lin_ib {r : Int} (h : r.natAbs <= 9) : IbL 9 (lin (r : Rat)) := fun i => by
 match i with
 | 0 => exact ⟨-r, by show -(r : Rat) = _; rw [Rat.intCast_neg], by omega⟩
 | 1 => exact ⟨1, rfl, by decide⟩
 | i + 2 => rw [show lin (r : Rat) = [-(r : Rat), 1] from rfl, coef_succ, coef_succ, coef_nil]; exact Ib.zero _
theorem sm64 {n : Nat} (h : n < 18446744073709551616) : n < BIG := Nat.lt_of_lt_of_le h (by decide +kernel)
theorem kp_step {f : Nat -> Int} {n B : Nat} (h : Kpf f n B) (hf : (f n).natAbs <= 9) (hn : n <= 30) (hb : (n + 1) * (B * 9) < BIG) :
 pmulO (pf (fun i => (f i : Rat)) n) (lin (f n : Rat)) = .ok (pf (fun i => (f i : Rat)) (n + 1)) /\ Kpf f (n + 1) ((n + 1) * (B * 9)) := by
 have hl := h.len
 have l2 : (lin (f n : Rat)).length = 2 := rfl
 have m := pmulO_ok h.b (lin_ib hf) hl (by omega) hb
 exact ⟨m.1, pmul_small (n := n) (m := 1) hl (Nat.le_of_eq l2), m.2⟩
def kB : Nat -> Nat
 | 0 => 1
 | n + 1 => (n + 1) * (kB n * 9)
theorem kp_all {f : Nat -> Int} (hf : ∀ i, (f i).natAbs <= 9) : ∀ n, n <= 4 -> Kpf f n (kB n)
 | 0, _ => ⟨Nat.le_refl _, fun i => by
   cases i with
   | zero => exact ⟨1, rfl, by decide⟩
   | succ i => show Ib _ (coef [] i); rw [coef_nil]; exact Ib.zero _⟩
 | n + 1, h => by
   refine (kp_step (kp_all hf n (by omega)) (hf n) (by omega) (sm64 ?_)).2
   match n, h with
   | 0, _ => decide
   | 1, _ => decide
   | 2, _ => decide
   | 3, _ => decide
   | n + 4, h => omega
theorem pf_ok {f : Nat -> Int} (hf : ∀ i, (f i).natAbs <= 9) {n : Nat} (hn : n <= 4) : Tr (pf (fun i => (f i : Rat)) n) /\ (pf (fun i => (f i : Rat)) n).length <= 65 :=
 ⟨Tr.of (pf_trim _ _), by have := (kp_all hf n hn).len; omega⟩
theorem pf_mulO {f : Nat -> Int} (hf : ∀ i, (f i).natAbs <= 9) {n : Nat} (hn : n < 4) : pmulO (pf (fun i => (f i : Rat)) n) (lin (f n : Rat)) = .ok (pf (fun i => (f i : Rat)) (n + 1)) := by
 refine (kp_step (kp_all hf n (by omega)) (hf n) (by omega) (sm64 ?_)).1
 match n, hn with
 | 0, _ => decide
 | 1, _ => decide
 | 2, _ => decide
 | 3, _ => decide
theorem dw_ib {h : Nat -> Int} (hh : ∀ i, (h i).natAbs <= 9) {w : Rat} {W : Nat} {r : Int} (hr : r.natAbs <= 9) (hw : Ib W w) : ∀ m, Ib (W * 18 ^ m) (dw (fun i => (h i : Rat)) w (r : Rat) m)
 | 0 => by rw [Nat.pow_zero, Nat.mul_one]; exact hw
 | m + 1 => by
   have k : Ib 18 ((r : Rat) - (h m : Rat)) := ⟨r - h m, by push_cast; rfl, by have := hh m; omega⟩
   have := (dw_ib hh hr hw m).mul k
   rw [Nat.pow_succ, <- Nat.mul_assoc]
   exact this
theorem ws_ib {f h : Nat -> Int} (hf : ∀ i, (f i).natAbs <= 9) (hh : ∀ i, (h i).natAbs <= 9) (m : Nat) : ∀ n, Ib (18 ^ (m * n)) (ws (fun i => (f i : Rat)) (fun i => (h i : Rat)) m n)
 | 0 => ⟨1, rfl, by simp⟩
 | n + 1 => by
   have := dw_ib hh (hf n) (ws_ib hf hh m n) m
   rw [<- Nat.pow_add] at this
   rw [Nat.mul_succ]
   exact this
theorem eighteen {k : Nat} (h : k <= 16) : 18 ^ k * 18 < BIG := Nat.lt_of_le_of_lt (Nat.mul_le_mul_right _ (Nat.pow_le_pow_right (by decide) h)) (show 18 ^ 16 * 18 < BIG by decide +kernel)
theorem dw_mulO {f h : Nat -> Int} (hf : ∀ i, (f i).natAbs <= 9) (hh : ∀ i, (h i).natAbs <= 9) {m n j : Nat} (hm : m <= 4) (hn : n < 4) (hj : j < m) :
 mulO (dw (fun i => (h i : Rat)) (ws (fun i => (f i : Rat)) (fun i => (h i : Rat)) m n) (f n : Rat) j) ((f n - h j : Int) : Rat) = .ok (dw (fun i => (h i : Rat)) (ws (fun i => (f i : Rat)) (fun i => (h i : Rat)) m n) (f n : Rat) (j + 1)) := by
 have a := dw_ib hh (hf n) (ws_ib hf hh m n) j
 have b : Ib 18 ((f n - h j : Int) : Rat) := ⟨_, rfl, by have := hf n; have := hh j; omega⟩
 rw [<- Nat.pow_add] at a
 have hmn : m * n <= m * 3 := Nat.mul_le_mul_left _ (by omega)
 rw [mulO_ok a b (eighteen (by omega)), Rat.intCast_sub]
 rfl
theorem roots_v {f h : Nat -> Int} (hf : ∀ i, (f i).natAbs <= 9) (hh : ∀ i, (h i).natAbs <= 9) {n m : Nat} (hn : n <= 4) (hm : m <= 4) :
 resO (resN (pf (fun i => (f i : Rat)) n) (pf (fun i => (h i : Rat)) m)) (pf (fun i => (f i : Rat)) n) (pf (fun i => (h i : Rat)) m) = .ok (ws (fun i => (f i : Rat)) (fun i => (h i : Rat)) m n) := by
 have kf := kp_all hf n hn
 have kh := kp_all hh m hm
 have kb : ∀ n, n <= 4 -> 1 <= kB n /\ kB n <= 2 ^ 18 := fun n hn => by
  match n, hn with
  | 0, _ => decide
  | 1, _ => decide
  | 2, _ => decide
  | 3, _ => decide
  | 4, _ => decide
  | n + 5, h => omega
 have cf : Cm (2 ^ 18) (pf (fun i => (f i : Rat)) n) := (Cm.int kf.b (kb n hn).1).mono (kb n hn).2
 have ch : Cm (2 ^ 18) (pf (fun i => (h i : Rat)) m) := (Cm.int kh.b (kb m hm).1).mono (kb m hm).2
 have lf := kf.len
 have lh := kh.len
 have tf := pf_trim (fun i => (f i : Rat)) n
 have th := pf_trim (fun i => (h i : Rat)) m
 have r := resO_ok (c := 19) (D := 4) (P := 4) (x := 18) (y := 18) (by decide) (by decide) (by decide) (by decide) (by decide) (by decide) tf th (by omega) (by omega) cf ch (Nat.le_refl _)
 rw [r.1, pres_rsl _ _ _ tf th (Nat.le_refl _), rsl_roots]
structure ResV (a b c d : List Rat) : Prop where
 ka : Kn a 4 51
 kb : Kn b 4 51
 kc : Kn c 4 51
 ab : pmulO a b = .ok (pmul a b) /\ Tr (pmul a b) /\ (pmul a b).length <= 65
 x : resO (resN (pmul a b) c) (pmul a b) c = .ok (rsl a c * rsl b c)
 y : resO (resN a c) a c = .ok (rsl a c)
 z : resO (resN b c) b c = .ok (rsl b c)
 p : mulO (rsl a c) (rsl b c) = .ok (rsl a c * rsl b c)
 ed : gcdO c.length a c = .ok d /\ Tr d /\ d.length <= 65
 fin : a.length ≠ 0 -> c.length ≠ 0 -> ((rsl a c).num.sign == 0) = decide (1 < d.length)
theorem res_v {a b c : List Rat} (ka : Kn a 4 51) (kb : Kn b 4 51) (kc : Kn c 4 51) : ∃ d, ResV a b c d := by
 have ab := ka.mul kb (by decide) (by decide +kernel)
 have lab : (pmul a b).length <= 7 := pmul_small (n := 3) (m := 3) ka.n kb.n
 have cab : Cm (2 ^ 14) (pmul a b) := (Cm.int ab.2.b (by decide)).mono (by decide)
 have ca : Cm (2 ^ 6) a := (Cm.int ka.b (by decide)).mono (by decide)
 have cb : Cm (2 ^ 6) b := (Cm.int kb.b (by decide)).mono (by decide)
 have cc : Cm (2 ^ 6) c := (Cm.int kc.b (by decide)).mono (by decide)
 have x := resO_ok (c := 22) (D := 3) (P := 6) (x := 14) (y := 6) (by decide) (by decide) (by decide) (by decide) (by decide) (by decide) ab.2.t kc.t (by omega) kc.n cab cc (Nat.le_refl _)
 have y := resO_ok (c := 7) (D := 3) (P := 3) (x := 6) (y := 6) (by decide) (by decide) (by decide) (by decide) (by decide) (by decide) ka.t kc.t ka.n kc.n ca cc (Nat.le_refl _)
 have z := resO_ok (c := 7) (D := 3) (P := 3) (x := 6) (y := 6) (by decide) (by decide) (by decide) (by decide) (by decide) (by decide) kb.t kc.t kb.n kc.n cb cc (Nat.le_refl _)
 rw [pres_rsl _ _ _ ab.2.t kc.t (Nat.le_refl _), rsl_mul ka.t kb.t kc.t] at x
 rw [pres_rsl _ _ _ ka.t kc.t (Nat.le_refl _)] at y
 rw [pres_rsl _ _ _ kb.t kc.t (Nat.le_refl _)] at z
 have p := y.2.mul z.2 (by decide)
 have g := gcdO_ok (D := 3) (c := 7) (by decide) (by decide) (by decide) ka.t kc.t ka.n kc.n ca cc (Nat.le_refl _)
 have G := pgcd_gcd c.length a c ka.t kc.t (Nat.le_refl _)
 have lg := pgcd_len c.length a c kc.t
 have la := ka.n
 have lc' := kc.n
 have g1 := g.1
 clear g
 generalize pgcd c.length a c = d at *
 refine ⟨d, ka, kb, kc, ⟨ab.1, Tr.of ab.2.t, by omega⟩, x.1, y.1, z.1, p.1, ⟨g1, Tr.of G.trim, by omega⟩, fun a1 c1 => ?_⟩
 have a0 : a ≠ [] := fun e => a1 (by rw [e]; rfl)
 have c0 : c ≠ [] := fun e => c1 (by rw [e]; rfl)
 have key : rsl a c = 0 ↔ 1 < d.length := by
  unfold rsl
  rw [if_neg (fun e => e.elim a0 c0)]
  have d0 := (dv_dg G.trim ka.t G.left a0).2
  have dl := len_pos d0
  constructor
  . intro h
    have nz : nm a c = 0 := by
     rcases Rat.mul_eq_zero.1 h with k | k
     . exact absurd k (qpow_ne (lc_ne ka.t a0) _)
     . exact k
    obtain ⟨e, he, e1, e2, e3⟩ := nm_zero_to _ a c ka.t a0 (Nat.le_refl _) nz
    have := (dv_dg he G.trim (G.least e2 e3) d0).1
    unfold dg at this e1
    omega
  . intro h
    rw [nm_zero_of _ a c d ka.t a0 (Nat.le_refl _) G.trim (by unfold dg; omega) G.left G.right]
    grind
 by_cases h : 1 < d.length
 . rw [key.2 h, decide_eq_true h]; rfl
 . rw [decide_eq_false h, beq_eq_false_iff_ne]
   intro e
   exact h (key.1 (Rat.num_eq_zero.1 (Int.sign_eq_zero_iff_zero.1 e)))
end Go.Proofs.YtmncfbfepdbioaaGreatDoor
