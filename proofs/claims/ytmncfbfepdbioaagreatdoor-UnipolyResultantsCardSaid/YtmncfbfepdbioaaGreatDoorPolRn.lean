/-
 Stage 3: a polynomial is known by its values; divisors, rests and common divisors said by values. Stage 3: the norm of a polynomial modulo another one, by Euclid's algorithm: its laws.
-/
import Derived.Test.YtmncfbfepdbioaaGreatDoorPolQ
namespace Go.Proofs.YtmncfbfepdbioaaGreatDoor
theorem ev_psub (p q : List Rat) (x : Rat) : ev (psub p q) x = ev p x - ev q x := by
 have := ev_sum (p := psub p q) (q := q) (r := p) (fun i => by rw [psub_coef]; grind) x
 grind
theorem ev_zero_from : ∀ (n k : Nat) (p : List Rat), ptrim p = p -> p.length <= n -> (∀ m : Nat, k <= m -> ev p ((m : Nat) : Rat) = 0) -> p = []
 | 0, _, p, _, h, _ => List.eq_nil_of_length_eq_zero (by omega)
 | n + 1, k, p, hp, h, hz => by
   by_cases h0 : p = []
   . exact h0
   . exfalso
     obtain ⟨u, hu, e⟩ := root_lin hp (hz k (Nat.le_refl _))
     have ul : u.length ≠ 0 := fun z => h0 (by rw [<- e, List.eq_nil_of_length_eq_zero z]; rfl)
     have len := pmul_len ul (show (lin (k : Rat)).length ≠ 0 by simp [lin])
     rw [e] at len
     have l2 : (lin (k : Rat)).length = 2 := rfl
     have := ev_zero_from n (k + 1) u hu (by omega) fun m hm => by
      have h1 := hz m (by omega)
      rw [<- e, ev_pmul, ev_lin] at h1
      rcases Rat.mul_eq_zero.1 h1 with z | z
      . exact z
      . exfalso
        have : ((m : Nat) : Rat) - ((k : Nat) : Rat) = ((m - k : Nat) : Rat) := by rw [cast_split (show k <= m by omega)]; grind
        rw [this] at z
        exact cast_ne (by omega) z
     rw [this] at ul
     exact ul rfl
theorem ev_eq {p q : List Rat} (hp : ptrim p = p) (hq : ptrim q = q) (h : ∀ x, ev p x = ev q x) : p = q := by
 have e : psub p q = [] := ev_zero_from _ 0 _ (psub_trim p q) (Nat.le_refl _) fun m _ => by rw [ev_psub, h]; grind
 refine ptrim_self hp hq fun i => ?_
 have := psub_coef p q i
 rw [e, coef_nil] at this
 grind
theorem ev_coef {p q : List Rat} (h : ∀ x, ev p x = ev q x) (i : Nat) : coef p i = coef q i := by
 have := ev_eq (ptrim_idem p) (ptrim_idem q) fun x => by rw [ev_trim, ev_trim, h]
 rw [<- ptrim_coef p, <- ptrim_coef q, this]
theorem ev_nil (x : Rat) : ev [] x = 0 := rfl
theorem ev_const (k x : Rat) : ev [k] x = k := by show ev [] x * x + k = k; rw [ev_nil]; grind
theorem dvp_ev {d p : List Rat} : Dvp d p ↔ ∃ u : List Rat, ∀ x, ev p x = ev u x * ev d x := by
 constructor
 . rintro ⟨u, hu⟩
   exact ⟨u, fun x => ev_prod hu x⟩
 . rintro ⟨u, hu⟩
   exact ⟨u, fun i => by rw [<- pmul_coef]; exact ev_coef (fun x => by rw [hu, ev_pmul]) i⟩
def Cg (c p r : List Rat) : Prop := ∃ u : List Rat, ∀ x, ev p x = ev u x * ev c x + ev r x
theorem rem_ev {c : List Rat} (hc : ptrim c = c) (c0 : c ≠ []) (p : List Rat) : ∀ x, ev p x = ev (pdiv p c).1 x * ev c x + ev (pdiv p c).2 x := fun x => by
 have s := pdiv_spec (p := p) ((trim_iff.1 hc).resolve_left c0)
 rw [<- ev_pmul]
 exact ev_sum (fun i => by rw [pmul_coef]; exact s.1 i) x
theorem rem_small {c : List Rat} (hc : ptrim c = c) (c0 : c ≠ []) (p : List Rat) : (pdiv p c).2.length <= c.length - 1 /\ ptrim (pdiv p c).2 = (pdiv p c).2 := (pdiv_spec ((trim_iff.1 hc).resolve_left c0)).2
theorem psub_le (p q : List Rat) : (psub p q).length <= max p.length q.length := by
 unfold psub pcomb
 refine Nat.le_trans (ptrim_len _) ?_
 rw [List.length_map, List.length_range]
 exact Nat.le_refl _
theorem len_pos {p : List Rat} (h : p ≠ []) : p.length ≠ 0 := fun k => h (List.eq_nil_of_length_eq_zero k)
theorem rem_uniq {c p r : List Rat} (hc : ptrim c = c) (c0 : c ≠ []) (hr : ptrim r = r) (hl : r.length < c.length) (h : Cg c p r) : (pdiv p c).2 = r := by
 obtain ⟨u, hu⟩ := h
 have e := rem_ev hc c0 p
 have s := rem_small hc c0 p
 have d : Dvp c (psub (pdiv p c).2 r) := dvp_ev.2 ⟨psub u (pdiv p c).1, fun x => by rw [ev_psub, ev_psub]; have := hu x; have := e x; grind⟩
 have z : psub (pdiv p c).2 r = [] := by
  by_cases h0 : psub (pdiv p c).2 r = []
  . exact h0
  . exfalso
    obtain ⟨_, _, _, _, _, l⟩ := dv_len hc (psub_trim _ _) d h0
    have := psub_le (pdiv p c).2 r
    have := len_pos c0
    omega
 exact ev_eq s.2 hr fun x => by have := ev_psub (pdiv p c).2 r x; rw [z, ev_nil] at this; grind
theorem rem_cg {c p r : List Rat} (hc : ptrim c = c) (c0 : c ≠ []) (h : Cg c p r) : (pdiv p c).2 = (pdiv r c).2 := by
 obtain ⟨u, hu⟩ := h
 have s := rem_small hc c0 r
 have := len_pos c0
 refine rem_uniq hc c0 s.2 (by omega) ⟨padd u (pdiv r c).1, fun x => ?_⟩
 have := hu x
 have := rem_ev hc c0 r x
 rw [ev_padd]
 grind
def dg (p : List Rat) : Nat := p.length - 1
def lc (p : List Rat) : Rat := coef p (dg p)
theorem lc_ne {p : List Rat} (hp : ptrim p = p) (p0 : p ≠ []) : lc p ≠ 0 := (trim_iff.1 hp).resolve_left p0
theorem pmul_ne {p q : List Rat} (p0 : p ≠ []) (q0 : q ≠ []) : pmul p q ≠ [] := fun h => by
 rcases pmul_zero h with k | k
 . exact p0 k
 . exact q0 k
theorem dg_mul {p q : List Rat} (p0 : p ≠ []) (q0 : q ≠ []) : dg (pmul p q) = dg p + dg q := by
 have := pmul_len (len_pos p0) (len_pos q0)
 unfold dg
 omega
theorem lc_mul {p q : List Rat} (p0 : p ≠ []) (q0 : q ≠ []) : lc (pmul p q) = lc p * lc q := by
 unfold lc
 rw [dg_mul p0 q0, pmul_coef]
 exact pmul_top
def sc (k : Rat) (p : List Rat) : List Rat := p.map (k * ·)
theorem sc_len (k : Rat) (p : List Rat) : (sc k p).length = p.length := by unfold sc; rw [List.length_map]
theorem sc_dg (k : Rat) (p : List Rat) : dg (sc k p) = dg p := by unfold dg; rw [sc_len]
theorem sc_coef (k : Rat) (p : List Rat) (i : Nat) : coef (sc k p) i = k * coef p i := by
 unfold sc coef
 rw [List.getD_eq_getElem?_getD, List.getElem?_map, List.getD_eq_getElem?_getD]
 cases p[i]? with
 | none => show (0 : Rat) = k * 0; grind
 | some a => rfl
theorem sc_lc (k : Rat) (p : List Rat) : lc (sc k p) = k * lc p := by unfold lc; rw [sc_dg, sc_coef]
theorem sc_ev (k x : Rat) : ∀ p : List Rat, ev (sc k p) x = k * ev p x
 | [] => by show (0 : Rat) = k * 0; grind
 | a :: p => by
   show ev (sc k p) x * x + k * a = k * (ev p x * x + a)
   rw [sc_ev k x p]
   grind
theorem sc_trim {k : Rat} {p : List Rat} (k0 : k ≠ 0) (hp : ptrim p = p) : ptrim (sc k p) = sc k p := by
 rw [trim_iff]
 rcases trim_iff.1 hp with h | h
 . exact Or.inl (by rw [h]; rfl)
 . refine Or.inr ?_
   rw [sc_len, sc_coef]
   intro z
   rcases Rat.mul_eq_zero.1 z with y | y
   . exact k0 y
   . exact h y
theorem sc_nil {k : Rat} {p : List Rat} : sc k p = [] ↔ p = [] := by unfold sc; exact List.map_eq_nil_iff
theorem const_of {p : List Rat} (p0 : p ≠ []) (h : dg p = 0) : p = [lc p] := by
 match p, p0, h with
 | [a], _, _ => rfl
 | a :: b :: q, _, h => exact absurd h (by unfold dg; simp)
end Go.Proofs.YtmncfbfepdbioaaGreatDoor
namespace Go.Proofs.YtmncfbfepdbioaaGreatDoor
def m1 (k : Nat) : Rat := (-1 : Rat) ^ k
theorem qpow_mul (x y : Rat) : ∀ n : Nat, (x * y) ^ n = x ^ n * y ^ n
 | 0 => by rw [Rat.pow_zero, Rat.pow_zero, Rat.pow_zero]; grind
 | n + 1 => by rw [Rat.pow_succ, Rat.pow_succ, Rat.pow_succ, qpow_mul x y n]; grind
theorem qpow_ne {x : Rat} (h : x ≠ 0) : ∀ n : Nat, x ^ n ≠ 0
 | 0 => by rw [Rat.pow_zero]; decide
 | n + 1 => fun k => by
   rw [Rat.pow_succ] at k
   rcases Rat.mul_eq_zero.1 k with z | z
   . exact qpow_ne h n z
   . exact h z
theorem m1_add (i j : Nat) : m1 (i + j) = m1 i * m1 j := qpow_add _ _ _
theorem m1_two : ∀ k, m1 k * m1 k = 1
 | 0 => by show (-1 : Rat) ^ 0 * (-1) ^ 0 = 1; rw [Rat.pow_zero]; grind
 | k + 1 => by
   have := m1_two k
   unfold m1 at *
   rw [Rat.pow_succ]
   grind
theorem m1_even {k : Nat} (h : k % 2 = 0) : m1 k = 1 := by
 obtain ⟨j, rfl⟩ : ∃ j, k = j + j := ⟨k / 2, by omega⟩
 rw [m1_add, m1_two]
theorem m1_odd {k : Nat} (h : k % 2 = 1) : m1 k = -1 := by
 obtain ⟨j, rfl⟩ : ∃ j, k = j + 1 := ⟨k - 1, by omega⟩
 rw [m1_add, m1_even (by omega)]
 show 1 * (-1 : Rat) ^ 1 = -1
 rw [Rat.pow_succ, Rat.pow_zero]; grind
theorem m1_ne (k : Nat) : m1 k ≠ 0 := qpow_ne (by decide) k
theorem par_mul (a b : Nat) : (a * b) % 2 = (a % 2) * (b % 2) % 2 := Nat.mul_mod a b 2
def nmf : Nat -> List Rat -> List Rat -> Rat
 | 0, _, _ => 1
 | f + 1, c, p => if dg c = 0 then 1 else if (pdiv p c).2 = [] then 0 else
   m1 (dg c * dg (pdiv p c).2) * lc (pdiv p c).2 ^ dg c / lc c ^ dg (pdiv p c).2 * nmf f (pdiv p c).2 c
def nm (c p : List Rat) : Rat := nmf (dg c) c p
theorem rem_dg {c : List Rat} (hc : ptrim c = c) (c0 : c ≠ []) (p : List Rat) (h : dg c ≠ 0) : dg (pdiv p c).2 < dg c := by
 have := (rem_small hc c0 p).1
 unfold dg at *
 omega
theorem nmf_nm : ∀ (n f : Nat) (c p : List Rat), ptrim c = c -> c ≠ [] -> dg c <= n -> dg c <= f -> nmf f c p = nm c p := by
 intro n
 induction n with
 | zero =>
   intro f c p hc c0 hn hf
   have h : dg c = 0 := by omega
   unfold nm
   rw [h]
   cases f with
   | zero => rfl
   | succ f => show (if dg c = 0 then (1 : Rat) else _) = 1; rw [if_pos h]
 | succ n ih =>
   intro f c p hc c0 hn hf
   by_cases h : dg c = 0
   . unfold nm
     rw [h]
     cases f with
     | zero => rfl
     | succ f => show (if dg c = 0 then (1 : Rat) else _) = 1; rw [if_pos h]
   . obtain ⟨d, hd⟩ : ∃ d, dg c = d + 1 := ⟨dg c - 1, by omega⟩
     obtain ⟨g, rfl⟩ : ∃ g, f = g + 1 := ⟨f - 1, by omega⟩
     have s := rem_small hc c0 p
     have l := rem_dg hc c0 p h
     unfold nm
     conv => rhs; rw [hd]
     show (if dg c = 0 then (1 : Rat) else if (pdiv p c).2 = [] then 0 else _) = (if dg c = 0 then (1 : Rat) else if (pdiv p c).2 = [] then 0 else _)
     rw [if_neg h, if_neg h]
     by_cases r0 : (pdiv p c).2 = []
     . rw [if_pos r0, if_pos r0]
     . rw [if_neg r0, if_neg r0, ih g _ c s.2 r0 (by omega) (by omega), ih d _ c s.2 r0 (by omega) (by omega)]
theorem nm_const {c p : List Rat} (h : dg c = 0) : nm c p = 1 := by unfold nm; rw [h]; rfl
theorem nm_zero {c p : List Rat} (h : dg c ≠ 0) (r0 : (pdiv p c).2 = []) : nm c p = 0 := by
 obtain ⟨d, hd⟩ : ∃ d, dg c = d + 1 := ⟨dg c - 1, by omega⟩
 unfold nm
 rw [hd]
 show (if dg c = 0 then (1 : Rat) else if (pdiv p c).2 = [] then 0 else _) = 0
 rw [if_neg h, if_pos r0]
theorem nm_eq {c p : List Rat} (hc : ptrim c = c) (c0 : c ≠ []) (h : dg c ≠ 0) (r0 : (pdiv p c).2 ≠ []) :
 nm c p = m1 (dg c * dg (pdiv p c).2) * lc (pdiv p c).2 ^ dg c / lc c ^ dg (pdiv p c).2 * nm (pdiv p c).2 c := by
 obtain ⟨d, hd⟩ : ∃ d, dg c = d + 1 := ⟨dg c - 1, by omega⟩
 have s := rem_small hc c0 p
 have l := rem_dg hc c0 p h
 have e := nmf_nm d d (pdiv p c).2 c s.2 r0 (by omega) (by omega)
 conv => lhs; unfold nm; rw [hd]
 show (if dg c = 0 then (1 : Rat) else if (pdiv p c).2 = [] then 0 else _) = _
 rw [if_neg h, if_neg r0, e]
theorem nm_cg {c p r : List Rat} (hc : ptrim c = c) (c0 : c ≠ []) (k : Cg c p r) : nm c p = nm c r := by
 have e := rem_cg hc c0 k
 by_cases h : dg c = 0
 . rw [nm_const h, nm_const h]
 . by_cases r0 : (pdiv p c).2 = []
   . rw [nm_zero h r0, nm_zero h (by rw [<- e]; exact r0)]
   . rw [nm_eq hc c0 h r0, nm_eq hc c0 h (by rw [<- e]; exact r0), e]
theorem rem_self {c r : List Rat} (hc : ptrim c = c) (c0 : c ≠ []) (hr : ptrim r = r) (h : r.length < c.length) : (pdiv r c).2 = r := rem_uniq hc c0 hr h ⟨[], fun x => by rw [ev_nil]; grind⟩
theorem cg_rem {c : List Rat} (hc : ptrim c = c) (c0 : c ≠ []) (p : List Rat) : Cg c p (pdiv p c).2 := ⟨_, rem_ev hc c0 p⟩
theorem len_dg {c r : List Rat} (c0 : c ≠ []) (r0 : r ≠ []) : r.length < c.length ↔ dg r < dg c := by
 have := len_pos c0
 have := len_pos r0
 unfold dg
 omega
theorem nm_sc : ∀ (n : Nat) (c p : List Rat) (k : Rat), k ≠ 0 -> ptrim c = c -> c ≠ [] -> dg c <= n -> nm c (sc k p) = k ^ dg c * nm c p /\ nm (sc k c) p = nm c p := by
 intro n
 induction n with
 | zero =>
   intro c p k k0 hc c0 hn
   have h : dg c = 0 := by omega
   rw [nm_const h, nm_const h, h, nm_const (by rw [sc_dg]; exact h), Rat.pow_zero]
   exact ⟨by grind, rfl⟩
 | succ n ih =>
   intro c p k k0 hc c0 hn
   by_cases h : dg c = 0
   . rw [nm_const h, nm_const h, h, nm_const (by rw [sc_dg]; exact h), Rat.pow_zero]
     exact ⟨by grind, rfl⟩
   . have s := rem_small hc c0 p
     have l := rem_dg hc c0 p h
     have c0' : sc k c ≠ [] := fun z => c0 (sc_nil.1 z)
     have hc' := sc_trim k0 hc
     have h' : dg (sc k c) ≠ 0 := by rw [sc_dg]; exact h
     have cl := len_pos c0
     have e1 : (pdiv (sc k p) c).2 = sc k (pdiv p c).2 := rem_uniq hc c0 (sc_trim k0 s.2) (by rw [sc_len]; omega) ⟨sc k (pdiv p c).1, fun x => by rw [sc_ev, sc_ev, sc_ev, rem_ev hc c0 p x]; grind⟩
     have e2 : (pdiv p (sc k c)).2 = (pdiv p c).2 := rem_uniq hc' c0' s.2 (by rw [sc_len]; omega) ⟨sc k⁻¹ (pdiv p c).1, fun x => by
      rw [sc_ev, sc_ev, rem_ev hc c0 p x]
      have := Rat.mul_inv_cancel k k0
      grind⟩
     by_cases r0 : (pdiv p c).2 = []
     . rw [nm_zero h r0, nm_zero h (by rw [e1, r0]; rfl), nm_zero h' (by rw [e2]; exact r0)]
       exact ⟨by grind, rfl⟩
     . have kr : k ^ dg (pdiv p c).2 ≠ 0 := qpow_ne k0 _
       have lr : lc c ^ dg (pdiv p c).2 ≠ 0 := qpow_ne (lc_ne hc c0) _
       rw [nm_eq hc c0 h r0, nm_eq hc c0 h (by rw [e1]; exact fun z => r0 (sc_nil.1 z)), nm_eq hc' c0' h' (by rw [e2]; exact r0), e1, e2]
       have i1 := (ih (pdiv p c).2 c k k0 s.2 r0 (by omega)).2
       have i2 := (ih (pdiv p c).2 c k k0 s.2 r0 (by omega)).1
       rw [i1, i2, sc_dg, sc_lc, sc_dg, sc_lc, qpow_mul, qpow_mul]
       generalize k ^ dg (pdiv p c).2 = K at *
       generalize lc c ^ dg (pdiv p c).2 = C at *
       exact ⟨by grind, by grind⟩
theorem nm_low {c d : List Rat} (hc : ptrim c = c) (hd : ptrim d = d) (c0 : c ≠ []) (d0 : d ≠ []) (h : dg d < dg c) : nm c d * lc c ^ dg d = m1 (dg c * dg d) * nm d c * lc d ^ dg c := by
 have e := rem_self hc c0 hd ((len_dg c0 d0).2 h)
 have := qpow_ne (lc_ne hc c0) (dg d)
 rw [nm_eq hc c0 (by omega) (by rw [e]; exact d0), e]
 generalize lc c ^ dg d = C at *
 grind
theorem nm_swap {c d : List Rat} (hc : ptrim c = c) (hd : ptrim d = d) (c0 : c ≠ []) (d0 : d ≠ []) : nm c d * lc c ^ dg d = m1 (dg c * dg d) * nm d c * lc d ^ dg c := by
 rcases Nat.lt_trichotomy (dg d) (dg c) with h | h | h
 . exact nm_low hc hd c0 d0 h
 . by_cases z : dg c = 0
   . rw [h, z, nm_const z, nm_const (by rw [h]; exact z), Rat.pow_zero, Rat.pow_zero, m1_even (by simp)]
     grind
   . have z' : dg d ≠ 0 := by rw [h]; exact z
     have lcn := lc_ne hc c0
     have ldn := lc_ne hd d0
     obtain ⟨k, hk⟩ : ∃ k, k = lc d * (lc c)⁻¹ := ⟨_, rfl⟩
     have ic := Rat.mul_inv_cancel _ lcn
     have kc : lc d = k * lc c := by rw [hk]; grind
     have k0 : k ≠ 0 := fun e => ldn (by rw [kc, e]; grind)
     have ik := Rat.mul_inv_cancel _ k0
     obtain ⟨r, hr⟩ : ∃ r, r = psub d (sc k c) := ⟨_, rfl⟩
     have rt : ptrim r = r := by rw [hr]; exact psub_trim _ _
     have re : ∀ x, ev r x = ev d x - k * ev c x := fun x => by rw [hr, ev_psub, sc_ev]
     have cl := len_pos c0
     have dl := len_pos d0
     have hcd : d.length = c.length := by unfold dg at h; omega
     have rl : r.length < c.length := by
      have l := psub_le d (sc k c)
      rw [sc_len, <- hr] at l
      rcases Nat.lt_or_ge r.length c.length with g | g
      . exact g
      . exfalso
        have e : r.length = c.length := by omega
        have r0 : r ≠ [] := fun z => by rw [z] at e; simp at e; omega
        have := lc_ne rt r0
        refine this ?_
        have e2 : dg r = dg d := by unfold dg; omega
        have e3 : dg r = dg c := by unfold dg; omega
        have : lc r = lc d - k * lc c := by
         unfold lc
         rw [hr, psub_coef, sc_coef, <- hr, <- e2, <- e3]
        rw [this, kc]
        grind
     have g1 : Cg c d r := ⟨[k], fun x => by rw [ev_const, re]; grind⟩
     have g2 : Cg d c (sc (-k⁻¹) r) := ⟨[k⁻¹], fun x => by rw [ev_const, sc_ev, re]; grind⟩
     have mk0 : (-k⁻¹ : Rat) ≠ 0 := fun e => by
      have : k⁻¹ = 0 := by grind
      rw [this] at ik
      grind
     rw [nm_cg hc c0 g1, nm_cg hd d0 g2, (nm_sc _ d r _ mk0 hd d0 (Nat.le_refl _)).1, h]
     by_cases r0 : r = []
     . subst r0
       have e1 : (pdiv [] c).2 = [] := rem_self hc c0 rfl (by simp; omega)
       have e2 : (pdiv [] d).2 = [] := rem_self hd d0 rfl (by simp; omega)
       rw [nm_zero z e1, nm_zero z' e2]
       grind
     . have lr : dg r < dg c := (len_dg c0 r0).1 rl
       have f1 := nm_low hc rt c0 r0 lr
       have f2 := nm_low hd rt d0 r0 (by omega)
       have g3 : Cg r d (sc k c) := ⟨[1], fun x => by rw [ev_const, sc_ev, re]; grind⟩
       rw [nm_cg rt r0 g3, (nm_sc _ r c k k0 rt r0 (Nat.le_refl _)).1, h, kc, qpow_mul] at f2
       have kp := qpow_ne k0 (dg r)
       have cp := qpow_ne lcn (dg r)
       have same : nm d r = nm c r := by
        have : nm d r * (k ^ dg r * lc c ^ dg r) = nm c r * (k ^ dg r * lc c ^ dg r) := by
         rw [f2]
         generalize k ^ dg r = K at *
         generalize lc c ^ dg r = C at *
         grind
        have nz : k ^ dg r * lc c ^ dg r ≠ 0 := fun e => by
         rcases Rat.mul_eq_zero.1 e with y | y
         . exact kp y
         . exact cp y
        have := congrArg (· * (k ^ dg r * lc c ^ dg r)⁻¹) this
        simp only [Rat.mul_assoc, Rat.mul_inv_cancel _ nz, Rat.mul_one] at this
        exact this
       rw [same, kc, qpow_mul]
       have e1 : (-k⁻¹) ^ dg c * k ^ dg c = m1 (dg c) := by
        rw [<- qpow_mul, show (-k⁻¹) * k = -1 by grind]
        rfl
       have e2 : m1 (dg c * dg c) * m1 (dg c) = 1 := by
        rw [<- m1_add]
        refine m1_even ?_
        rw [Nat.add_mod, par_mul]
        rcases Nat.mod_two_eq_zero_or_one (dg c) with y | y <;> rw [y]
       generalize (-k⁻¹) ^ dg c = X at *
       generalize k ^ dg c = K at *
       generalize m1 (dg c * dg c) = Y at *
       generalize m1 (dg c) = Z at *
       generalize lc c ^ dg c = C at *
       have : Y * (X * nm c r) * (K * C) = (Y * (X * K)) * (nm c r * C) := by grind
       rw [this, e1, e2]
       grind
 . have f := nm_low hd hc d0 c0 h
   have e : dg d * dg c = dg c * dg d := Nat.mul_comm _ _
   rw [e] at f
   have := m1_two (dg c * dg d)
   generalize m1 (dg c * dg d) = Y at *
   have : Y * (nm d c * lc d ^ dg c) = (Y * Y) * nm c d * lc c ^ dg d := by rw [f]; grind
   grind
end Go.Proofs.YtmncfbfepdbioaaGreatDoor
