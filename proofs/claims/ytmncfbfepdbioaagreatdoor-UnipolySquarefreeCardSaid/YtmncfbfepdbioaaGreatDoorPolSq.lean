/-
 Stage 3: the values of UnipolySquarefree.
-/
import Derived.Test.YtmncfbfepdbioaaGreatDoorBehindQ
import Derived.Test.YtmncfbfepdbioaaGreatDoorPolDv
import Derived.Test.YtmncfbfepdbioaaGreatDoorPolQ
import Derived.Test.YtmncfbfepdbioaaGreatDoorPolRn
namespace Go.Proofs.YtmncfbfepdbioaaGreatDoor
def sqfO (a : List Rat) : Except Int (List Rat) := thenO (derivO a) fun d => thenO (gcdO d.length a d) fun g => thenO (pdivO a g) fun q => monicO q.1
theorem dv_dg' {h c : List Rat} (hh : ptrim h = h) (hc : ptrim c = c) (d : Dvp h c) (c0 : c ≠ []) : dg h <= dg c /\ h ≠ [] := by
 obtain ⟨u, _, _, _, h0, l⟩ := dv_len hh hc d c0
 unfold dg
 exact ⟨by omega, h0⟩
section
variable {H : Nat -> Nat} {K L : Nat} {G : List Rat}
theorem gcdO_gen (hG : ptrim G = G) (hskip : ∀ k j, H k + (j + 2) * H (k + 1) <= H (k + j + 2)) (hmono : ∀ i j, i <= j -> H i <= H j) (hB : 2 * H (K + 1) < 4098) (hL : L <= K + dg G) : ∀ (F : Nat) (p q : List Rat) (k x y : Nat), ptrim p = p -> ptrim q = q -> q.length < p.length -> p.length + k = L + 1 -> Cm (2 ^ x) p -> Cm (2 ^ y) q -> x + 1 <= H k -> y + 1 <= H (k + 1) -> Dvp G p -> Dvp G q -> q.length <= F →
 gcdO F p q = .ok (pgcd F p q) := by
 intro F
 induction F with
 | zero =>
   intro p q k x y hp hq hl hk cp cq hx hy gp gq hF
   have p0 : p ≠ [] := fun e => by rw [e] at hl; simp at hl
   have d := (dv_dg' hG hp gp p0).1
   have m := hmono k (K + 1) (by unfold dg at *; omega)
   exact (rest_monic hp cp (by omega)).1
 | succ F ih =>
   intro p q k x y hp hq hl hk cp cq hx hy gp gq hF
   have p0 : p ≠ [] := fun e => by rw [e] at hl; simp at hl
   unfold gcdO pgcd
   by_cases h0 : q.length = 0
   . rw [if_pos h0, if_pos h0]
     have d := (dv_dg' hG hp gp p0).1
     have m := hmono k (K + 1) (by unfold dg at *; omega)
     exact (rest_monic hp cp (by omega)).1
   . rw [if_neg h0, if_neg h0]
     have q0 : q ≠ [] := fun e => h0 (by rw [e]; rfl)
     have tq := top_ne hq h0
     have d := (dv_dg' hG hq gq q0).1
     obtain ⟨j, hj⟩ : ∃ j, p.length = q.length + 1 + j := ⟨p.length - q.length - 1, by omega⟩
     have hrow : p.length - (q.length - 1) = j + 2 := by omega
     have hsk := hskip k j
     have hyr : (j + 2) * (y + 1) <= (j + 2) * H (k + 1) := Nat.mul_le_mul_left _ hy
     have top := hmono (k + j + 2) (K + 1) (by unfold dg at *; omega)
     have dv := pdivO_cm cp cq tq (by rw [hrow, two_rows]; exact two_big (by omega))
     rw [hrow, two_rows] at dv
     have rl := pdiv_rest_len (p := p) tq
     have mo := rest_monic rl.2 dv.2.2 (by omega)
     rw [thenO_ok dv.1, thenO_ok mo.1]
     have ml := pmonic_len (pdiv p q).2
     have hyk := hmono (k + 1) (k + j + 1) (by omega)
     have gr : Dvp G (pdiv p q).2 := by
      obtain ⟨u, hu⟩ := dvp_ev.1 gp
      obtain ⟨v, hv⟩ := dvp_ev.1 gq
      exact dvp_ev.2 ⟨psub u (pmul (pdiv p q).1 v), fun z => by rw [ev_psub, ev_pmul]; have := rem_ev hq q0 p z; have := hu z; have := hv z; grind⟩
     have zb : x + (j + 2) * (y + 1) + 1 <= H (k + j + 2) := by omega
     exact ih q (pmonic (pdiv p q).2) (k + j + 1) y (x + (j + 2) * (y + 1)) hq (pmonic_trim rl.2) (by rw [ml]; omega) (by omega) cq mo.2 (by omega) zb gq (dv_monic1 rl.2 gr) (by rw [ml]; omega)
end
def hq : Nat -> Nat
 | 0 => 47
 | 1 => 51
 | n + 2 => 2 * hq (n + 1) + hq n
theorem hq_step : ∀ n, hq n <= hq (n + 1)
 | 0 => by decide
 | n + 1 => by show hq (n + 1) <= 2 * hq (n + 1) + hq n; omega
theorem hq_mono (k n : Nat) (h : k <= n) : hq k <= hq n := by
 induction n with
 | zero => rw [Nat.le_zero.1 h]; exact Nat.le_refl _
 | succ n ih =>
   rcases Nat.lt_or_ge k (n + 1) with g | g
   . exact Nat.le_trans (ih (by omega)) (hq_step n)
   . rw [show k = n + 1 by omega]; exact Nat.le_refl _
theorem hq_skip (k : Nat) : ∀ j, hq k + (j + 2) * hq (k + 1) <= hq (k + j + 2)
 | 0 => by show hq k + 2 * hq (k + 1) <= 2 * hq (k + 1) + hq k; omega
 | j + 1 => by
   have h1 := hq_skip k j
   have h3 := hq_mono (k + 1) (k + j + 2) (by omega)
   have e : (j + 1 + 2) * hq (k + 1) = (j + 2) * hq (k + 1) + hq (k + 1) := by rw [show j + 1 + 2 = (j + 2) + 1 by omega, Nat.succ_mul]
   have e2 : hq (k + (j + 1) + 2) = 2 * hq (k + j + 2) + hq (k + j + 1) := by show hq (k + (j + 1) + 1 + 1) = _; rw [show k + (j + 1) + 1 + 1 = (k + j + 1) + 2 by omega]; rfl
   omega
theorem lin_coef (p : List Rat) (r : Rat) : ∀ i, coef (pmul p (lin r)) i = (match i with | 0 => 0 | i + 1 => coef p i) - r * coef p i
 | 0 => by
   rw [pmul_coef, cv_comm]
   show 0 + coef (lin r) 0 * coef p 0 = 0 - r * coef p 0
   show 0 + (-r) * coef p 0 = _
   grind
 | i + 1 => by
   rw [pmul_coef, cv_comm]
   show sm (i + 1 + 1) (fun j => coef (lin r) j * coef p (i + 1 - j)) = coef p i - r * coef p (i + 1)
   rw [sm_head, sm_head, sm_zero (f := fun j => (fun i_1 => coef (lin r) (i_1 + 1) * coef p (i + 1 - (i_1 + 1))) (j + 1)) (fun j _ => by
    show coef (lin r) (j + 1 + 1) * _ = 0
    rw [show lin r = [-r, 1] from rfl, coef_succ, coef_succ, coef_nil]; grind)]
   show (-r) * coef p (i + 1 - 0) + ((1 : Rat) * coef p (i + 1 - (0 + 1)) + 0) = _
   rw [show i + 1 - 0 = i + 1 by omega, show i + 1 - (0 + 1) = i by omega]
   grind
theorem lin_step {p : List Rat} {B : Nat} {r : Int} (h : IbL B p) (hr : r.natAbs <= 9) : IbL (10 * B) (pmul p (lin (r : Rat))) := fun i => by
 rw [lin_coef]
 have b : Ib (9 * B) ((r : Rat) * coef p i) := Ib.mul (show Ib 9 (r : Rat) from ⟨r, rfl, hr⟩) (h i)
 have a : Ib B (match i with | 0 => 0 | i + 1 => coef p i) := by
  cases i with
  | zero => exact Ib.zero _
  | succ i => exact h i
 have s := Ib.sub a b
 have e : B + 9 * B = 10 * B := by omega
 rw [e] at s
 cases i <;> exact s
structure SB (P : List Rat) (ds : List Rat) (m : Nat) : Prop where
 sf : ∃ G V, SF P G V ds /\ G.length + ds.length = m + 1 /\ IbL (50 * 10 ^ m) G
 len : P.length = m + 1
 b : IbL (50 * 10 ^ m) P
theorem SB.start {c : Int} (h1 : 1 <= c) (h2 : c <= 50) : SB [(c : Rat)] [] 0 := by
 have hb : IbL (50 * 10 ^ 0) [(c : Rat)] := coef_one' ⟨c, rfl, by omega⟩
 exact ⟨⟨[(c : Rat)], [], SF.start (cast_int_ne (by omega)), rfl, hb⟩, rfl, hb⟩
theorem ten_up (B m : Nat) : 10 * (B * 10 ^ m) = B * 10 ^ (m + 1) := by rw [Nat.pow_succ]; grind
theorem len_lin {p : List Rat} (h : p.length ≠ 0) (r : Rat) : (pmul p (lin r)).length = p.length + 1 := by
 rw [pmul_len h (by show (2 : Nat) ≠ 0; decide)]
 show p.length - 1 + (2 - 1) + 1 = _
 omega
theorem SB.fresh {P ds : List Rat} {m : Nat} {r : Int} (h : SB P ds m) (hr : r.natAbs <= 9) (hn : (r : Rat) ∉ ds) : SB (pmul P (lin (r : Rat))) ((r : Rat) :: ds) (m + 1) := by
 obtain ⟨⟨G, V, sf, hl, hb⟩, len, b⟩ := h
 refine ⟨⟨G, _, sf.fresh hn, by rw [List.length_cons]; omega, fun i => (hb i).mono (by rw [<- ten_up]; omega)⟩, by rw [len_lin (by omega), len], ?_⟩
 rw [<- ten_up]
 exact lin_step b hr
theorem SB.again {P ds : List Rat} {m : Nat} {r : Int} (h : SB P ds m) (hr : r.natAbs <= 9) (hn : (r : Rat) ∈ ds) : SB (pmul P (lin (r : Rat))) ds (m + 1) := by
 obtain ⟨⟨G, V, sf, hl, hb⟩, len, b⟩ := h
 obtain ⟨W, k⟩ := sf.again hn
 have gl := len_pos sf.g0
 refine ⟨⟨_, _, k, by rw [len_lin gl]; omega, ?_⟩, by rw [len_lin (by omega), len], ?_⟩
 . rw [<- ten_up]; exact lin_step hb hr
 . rw [<- ten_up]; exact lin_step b hr
theorem ten_le {m n : Nat} (h : m <= n) : 50 * 10 ^ m <= 50 * 10 ^ n := Nat.mul_le_mul_left _ (Nat.pow_le_pow_right (by decide) h)
theorem sm64' {n : Nat} (h : n < 18446744073709551616) : n < BIG := Nat.lt_of_lt_of_le h (by decide +kernel)
theorem SB.mulO {P ds : List Rat} {m : Nat} {r : Int} (h : SB P ds m) (hr : r.natAbs <= 9) (hm : m < 12) : pmulO P (lin (r : Rat)) = .ok (pmul P (lin (r : Rat))) := by
 have b : IbL (50 * 10 ^ 12) P := fun i => (h.b i).mono (ten_le (by omega))
 have l : IbL 9 (lin (r : Rat)) := fun i => by
  match i with
  | 0 => exact ⟨-r, by show -(r : Rat) = _; rw [Rat.intCast_neg], by omega⟩
  | 1 => exact ⟨1, rfl, by decide⟩
  | i + 2 => rw [show lin (r : Rat) = [-(r : Rat), 1] from rfl, coef_succ, coef_succ, coef_nil]; exact Ib.zero _
 have hl := h.len
 exact (pmulO_ok b l (n := 13) (by omega) (by show P.length - 1 + (2 - 1) <= 64; omega) (by decide +kernel)).1
theorem SB.tr {P ds : List Rat} {m : Nat} (h : SB P ds m) (hm : m <= 12) : Tr P /\ P.length <= 65 := by
 obtain ⟨G, V, sf, _⟩ := h.sf
 exact ⟨Tr.of sf.pt, by rw [h.len]; omega⟩
theorem Cm.ten {p : List Rat} {m : Nat} (h : IbL (50 * 10 ^ m) p) (hm : m <= 12) : Cm (2 ^ 46) p := (Cm.int (fun i => (h i).mono (ten_le hm)) (by decide)).mono (by decide)
structure SqV (P : List Rat) (ds : List Rat) : Prop where
 s : sqfO P = .ok (prodl 1 ds)
 ts : Tr (prodl 1 ds) /\ (prodl 1 ds).length <= 65
 t1 : ∀ d, derivO P = .ok d -> Tr d
 t2 : ∀ d g q, derivO P = .ok d -> gcdO d.length P d = .ok g -> pdivO P g = .ok q -> Tr q.1
 d : derivO (prodl 1 ds) = .ok (pderiv (prodl 1 ds)) /\ Tr (pderiv (prodl 1 ds)) /\ (pderiv (prodl 1 ds)).length <= 65
 g : gcdO (pderiv (prodl 1 ds)).length (prodl 1 ds) (pderiv (prodl 1 ds)) = .ok [1]
theorem prodl_ib : ∀ {ds : List Rat} {B : Nat}, (∀ r ∈ ds, ∃ z : Int, r = (z : Rat) /\ z.natAbs <= 9) -> B = 10 ^ ds.length -> IbL B (prodl 1 ds) /\ (prodl 1 ds).length = ds.length + 1
 | [], B, _, e => ⟨coef_one' ⟨1, rfl, by rw [e]; decide⟩, rfl⟩
 | r :: ds, B, h, e => by
   obtain ⟨z, hz, hb⟩ := h r (by simp)
   have i := prodl_ib (ds := ds) (fun s hs => h s (by simp [hs])) rfl
   subst hz
   have l := lin_step i.1 hb
   show IbL B (pmul (prodl 1 ds) (lin (z : Rat))) /\ (pmul (prodl 1 ds) (lin (z : Rat))).length = _
   refine ⟨fun j => (l j).mono (by rw [e, List.length_cons, Nat.pow_succ]; omega), ?_⟩
   rw [len_lin (by omega), i.2, List.length_cons]
theorem SB.val {P ds : List Rat} {m : Nat} (h : SB P ds m) (hm : m <= 12) (hd : ds.length <= 4) (hi : ∀ r ∈ ds, ∃ z : Int, r = (z : Rat) /\ z.natAbs <= 9) : SqV P ds := by
 obtain ⟨G, V, sf, hl, hb⟩ := h.sf
 have pt := sf.pt
 have len := h.len
 have b12 : IbL (50 * 10 ^ 12) P := fun i => (h.b i).mono (ten_le hm)
 have dO := derivO_ok b12 (n := 13) (by omega) (by decide +kernel)
 have dt := pderiv_trim pt
 have dlen : (pderiv P).length = P.length - 1 := by unfold pderiv; rw [List.length_map, List.length_range]
 have cp : Cm (2 ^ 46) P := Cm.ten h.b hm
 have cd : Cm (2 ^ 50) (pderiv P) := by
  have e : IbL (12 * (50 * 10 ^ 12)) (pderiv P) := fun i => by
   rw [pderiv_coef]
   rcases Nat.lt_or_ge (i + 1) 13 with g | g
   . exact ((Ib.nat (i + 1)).mul (b12 (i + 1))).mono (Nat.mul_le_mul_right _ (by omega))
   . show Ib _ (((i + 1 : Nat) : Rat) * coef P (i + 1))
     rw [coef_past (by omega)]
     exact ⟨0, by grind, by omega⟩
  exact (Cm.int e (by decide)).mono (by decide)
 have gP : Dvp G P := by rw [sf.p]; exact dvp_ev.2 ⟨prodl 1 ds, fun x => by rw [ev_pmul]⟩
 have gD : Dvp G (pderiv P) := by rw [sf.d]; exact dvp_ev.2 ⟨V, fun x => by rw [ev_pmul]⟩
 have gl := len_pos sf.g0
 have go := gcdO_gen (L := m) (K := 4) sf.g hq_skip hq_mono (by decide) (by unfold dg; omega) (pderiv P).length P (pderiv P) 0 46 50 pt dt (by omega) (by omega) cp cd (by decide) (by decide) gP gD (Nat.le_refl _)
 have GG := pgcd_gcd (pderiv P).length P (pderiv P) pt dt (Nat.le_refl _)
 have sq := sf.square GG
 generalize pgcd (pderiv P).length P (pderiv P) = g at *
 have p0 : P ≠ [] := fun e => by rw [e] at len; simp at len
 have g0 : g ≠ [] := (dv_dg' GG.trim pt GG.left p0).2
 have ge : pmonic G = g := by
  have g1 : Dvp G g := GG.least gP gD
  have g2 : Dvp g G := by
   have H1 := pgcd_gcd V.length (prodl 1 ds) V (prodl_trim one_ne ds) sf.v (Nat.le_refl _)
   have h1 := gcd_one rfl H1 sf.apart
   have c := H1.comb
   rw [h1] at c
   obtain ⟨u, v, huv⟩ := c
   have one : ∀ x, ev u x * ev (prodl 1 ds) x + ev v x * ev V x = 1 := fun x => by
    have e1 := ev_sum (p := pmul u (prodl 1 ds)) (q := pmul v V) (r := [1]) (fun i => by rw [pmul_coef, pmul_coef]; exact huv i) x
    rw [ev_pmul, ev_pmul, ev_const] at e1
    exact e1.symm
   obtain ⟨s, hs⟩ := dvp_ev.1 GG.left
   obtain ⟨t, ht⟩ := dvp_ev.1 GG.right
   refine dvp_ev.2 ⟨padd (pmul u s) (pmul v t), fun x => ?_⟩
   have o := one x
   have a1 := hs x
   have a2 := ht x
   rw [sf.p, ev_pmul] at a1
   rw [sf.d, ev_pmul] at a2
   rw [ev_padd, ev_pmul, ev_pmul]
   have : ev G x = (ev u x * ev (prodl 1 ds) x + ev v x * ev V x) * ev G x := by rw [o]; grind
   rw [this]
   grind
  exact dv_same GG.trim sf.g g2 g1 (GG.lead.resolve_left g0) sf.g0
 have cG : Cm (2 ^ 46) G := Cm.ten hb hm
 have mG := rest_monic sf.g cG (by decide)
 rw [ge] at mG
 have gl2 : g.length = G.length := by rw [<- ge, pmonic_len]
 have hrow : P.length - (g.length - 1) = ds.length + 1 := by omega
 have m5 : (ds.length + 1) * (46 + 1) <= 5 * 47 := Nat.mul_le_mul_right _ (by omega)
 have dv := pdivO_cm cp mG.2 (top_ne GG.trim (len_pos g0)) (by rw [hrow, two_rows]; exact two_big (by omega))
 rw [hrow, two_rows] at dv
 have tq := pdiv_quot_trim pt GG.trim g0
 have mq := rest_monic tq dv.2.1 (by omega)
 rw [sq] at mq
 have ib := prodl_ib hi rfl
 have ib4 : IbL (10 ^ 4) (prodl 1 ds) := fun i => (ib.1 i).mono (Nat.pow_le_pow_right (by decide) hd)
 have st := prodl_trim one_ne ds
 have d2 := derivO_ok ib4 (n := 5) (by omega) (sm64' (by decide))
 have d2t := pderiv_trim st
 have d2l := pderiv_le (prodl 1 ds)
 have g2 := gcdO_ok (D := 4) (c := 17) (p := prodl 1 ds) (q := pderiv (prodl 1 ds)) (F := (pderiv (prodl 1 ds)).length) (by decide) (by decide) (by decide) st d2t (by omega) (by omega) ((Cm.int ib4 (by decide)).mono (by decide)) ((Cm.int d2.2 (by decide)).mono (by decide)) (Nat.le_refl _)
 have G2 := pgcd_gcd (pderiv (prodl 1 ds)).length (prodl 1 ds) (pderiv (prodl 1 ds)) st d2t (Nat.le_refl _)
 have e2 := sf_gcd sf.nd G2
 rw [e2] at g2
 refine ⟨?_, ⟨Tr.of st, by omega⟩, fun d e => ?_, fun d g' q e e1 e3 => ?_, ⟨d2.1, Tr.of d2t, by omega⟩, g2.1⟩
 . unfold sqfO
   rw [thenO_ok dO.1, thenO_ok go, thenO_ok dv.1]
   exact mq.1
 . rw [dO.1] at e
   injection e with e
   rw [<- e]
   exact Tr.of dt
 . rw [dO.1] at e
   injection e with e
   subst e
   rw [go] at e1
   injection e1 with e1
   subst e1
   rw [dv.1] at e3
   injection e3 with e3
   rw [<- e3]
   exact Tr.of tq
end Go.Proofs.YtmncfbfepdbioaaGreatDoor
