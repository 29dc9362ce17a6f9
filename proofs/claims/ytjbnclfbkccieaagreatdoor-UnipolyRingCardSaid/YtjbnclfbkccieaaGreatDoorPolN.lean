/-
  Stage 3: the program's functions on lists of rationals have the coefficients that polynomials have. Stage 3: the program's commonDivisor.
-/
import Derived.Test.YtjbnclfbkccieaaGreatDoorPolR
namespace Go.Proofs.YtjbnclfbkccieaaGreatDoor
theorem padd_coef (p q : List Rat) (i : Nat) : coef (padd p q) i = coef p i + coef q i := by
  unfold padd pcomb
  rw [ptrim_coef, coef_map_range]
  split
  · rfl
  · rename_i h
    rw [coef_past (p := p) (by omega), coef_past (p := q) (by omega)]; grind
theorem psub_coef (p q : List Rat) (i : Nat) : coef (psub p q) i = coef p i - coef q i := by
  unfold psub pcomb
  rw [ptrim_coef, coef_map_range]
  split
  · rfl
  · rename_i h
    rw [coef_past (p := p) (by omega), coef_past (p := q) (by omega)]; grind
theorem padd_trim (p q : List Rat) : ptrim (padd p q) = padd p q := ptrim_idem _
theorem psub_trim (p q : List Rat) : ptrim (psub p q) = psub p q := ptrim_idem _
theorem sm_from (f : Nat → Rat) (lo : Nat) : ∀ n, (∀ i, i < lo → f i = 0) → sm (lo + n) f = sm n (fun j => f (lo + j))
  | 0, h => sm_zero h
  | n + 1, h => by rw [← Nat.add_assoc, sm, sm, sm_from f lo n h]
theorem pmulc_cv (p q : List Rat) (k : Nat) : pmulc p q k = cv (coef p) (coef q) k := by
  have z1 : ∀ i, i < k + 1 - q.length → coef p i * coef q (k - i) = 0 := fun i h => by rw [coef_past (p := q) (i := k - i) (by omega)]; grind
  have z2 : ∀ i, min k (p.length - 1) + 1 ≤ i → i < k + 1 → coef p i * coef q (k - i) = 0 := fun i h1 h2 => by rw [coef_past (p := p) (i := i) (by omega)]; grind
  unfold pmulc cv
  by_cases h : k + 1 - q.length ≤ min k (p.length - 1) + 1
  · rw [← sm_from (fun i => coef p i * coef q (k - i)) (k + 1 - q.length) _ z1]
    rw [show k + 1 - q.length + (min k (p.length - 1) + 1 - (k + 1 - q.length)) = min k (p.length - 1) + 1 by omega]
    rw [← sm_more _ (min k (p.length - 1) + 1) (k + 1 - (min k (p.length - 1) + 1)) (fun i a b => z2 i a (by omega))]
    congr 1; omega
  · rw [show min k (p.length - 1) + 1 - (k + 1 - q.length) = 0 by omega]
    exact (sm_zero fun i hi => by
      by_cases g : i < k + 1 - q.length
      · exact z1 i g
      · exact z2 i (by omega) hi).symm
theorem pmul_coef (p q : List Rat) (k : Nat) : coef (pmul p q) k = cv (coef p) (coef q) k := by
  unfold pmul
  by_cases h : p.length = 0 ∨ q.length = 0
  · rw [if_pos h, coef_nil]
    exact (sm_zero fun i _ => by
      rcases h with h | h
      · rw [coef_past (p := p) (by omega)]; grind
      · rw [coef_past (p := q) (by omega)]; grind).symm
  · rw [if_neg h, coef_map_range]
    split
    · exact pmulc_cv p q k
    · rename_i g
      exact (sm_zero fun i _ => by
        by_cases a : p.length ≤ i
        · rw [coef_past a]; grind
        · rw [coef_past (p := q) (i := k - i) (by omega)]; grind).symm
/-- A list without zeros at its end. -/
theorem trim_iff : ∀ {p : List Rat}, ptrim p = p ↔ p = [] ∨ coef p (p.length - 1) ≠ 0
  | [] => ⟨fun _ => Or.inl rfl, fun _ => rfl⟩
  | [a] => by
    constructor
    · intro h
      right
      intro k
      have e : a = 0 := k
      subst e
      exact absurd h (by decide)
    · intro h
      rcases h with h | h
      · cases h
      · show (if a.num = 0 then [] else [a]) = [a]
        rw [if_neg]
        intro k
        exact h (Rat.num_eq_zero.1 k)
  | a :: b :: p => by
    have ih := trim_iff (p := b :: p)
    have e : coef (a :: b :: p) ((a :: b :: p).length - 1) = coef (b :: p) ((b :: p).length - 1) := by
      show coef (a :: b :: p) (p.length + 1) = coef (b :: p) p.length
      rw [coef_succ]
    rw [e]
    constructor
    · intro h
      right
      have l := ptrim_len (b :: p)
      rw [ptrim] at h
      split at h
      · split at h
        · cases h
        · injection h with _ h; cases h
      · rename_i c q g
        injection h with _ h
        exact (ih.1 (g.trans h)).resolve_left (List.cons_ne_nil _ _)
    · intro h
      rcases h with h | h
      · cases h
      · have k := ih.2 (Or.inr h)
        rw [ptrim, k]
theorem pmul_len {p q : List Rat} (hp : p.length ≠ 0) (hq : q.length ≠ 0) : (pmul p q).length = p.length - 1 + (q.length - 1) + 1 := by
  unfold pmul
  rw [if_neg (by omega), List.length_map, List.length_range]
theorem pmul_top {p q : List Rat} : cv (coef p) (coef q) (p.length - 1 + (q.length - 1)) = coef p (p.length - 1) * coef q (q.length - 1) := by
  unfold cv
  have e : ∀ i, i < p.length - 1 + (q.length - 1) + 1 → coef p i * coef q (p.length - 1 + (q.length - 1) - i) = if i = p.length - 1 then coef p (p.length - 1) * coef q (q.length - 1) else 0 := fun i hi => by
    by_cases a : i = p.length - 1
    · rw [if_pos a, a, show p.length - 1 + (q.length - 1) - (p.length - 1) = q.length - 1 by omega]
    · rw [if_neg a]
      by_cases b : p.length ≤ i
      · rw [coef_past b]; grind
      · rw [coef_past (p := q) (i := p.length - 1 + (q.length - 1) - i) (by omega)]; grind
  rw [sm_congr e]
  have one : ∀ n m (v : Rat), m < n → sm n (fun j => if j = m then v else 0) = v := by
    intro n
    induction n with
    | zero => intro m v h; omega
    | succ n ih =>
      intro m v hm
      rw [sm]
      by_cases e : m = n
      · subst e
        rw [sm_zero (fun j hj => by rw [if_neg (by omega)]), if_pos rfl]; grind
      · rw [ih m v (by omega), if_neg (by omega)]; grind
  exact one _ _ _ (by omega)
theorem pmul_trim {p q : List Rat} (hp : ptrim p = p) (hq : ptrim q = q) : ptrim (pmul p q) = pmul p q := by
  by_cases h : p.length = 0 ∨ q.length = 0
  · unfold pmul; rw [if_pos h]; rfl
  · rw [trim_iff]
    right
    rw [pmul_len (by omega) (by omega), Nat.add_sub_cancel, pmul_coef, pmul_top]
    rcases trim_iff.1 hp with a | a
    · rw [a] at h; exact absurd (Or.inl rfl) h
    · rcases trim_iff.1 hq with b | b
      · rw [b] at h; exact absurd (Or.inr rfl) h
      · intro k
        rcases Rat.mul_eq_zero.1 k with k | k
        · exact a k
        · exact b k
/-- The laws of the ring. -/
theorem pmul_comm {p q : List Rat} (hp : ptrim p = p) (hq : ptrim q = q) : pmul p q = pmul q p :=
  ptrim_self (pmul_trim hp hq) (pmul_trim hq hp) fun i => by rw [pmul_coef, pmul_coef, cv_comm]
theorem pmul_padd {p q r : List Rat} (hp : ptrim p = p) : pmul p (padd q r) = padd (pmul p q) (pmul p r) :=
  ptrim_self (pmul_trim hp (padd_trim q r)) (padd_trim _ _) fun i => by
    rw [pmul_coef, padd_coef, pmul_coef, pmul_coef, ← cv_add]
    exact cv_congr (fun _ _ => rfl) fun j _ => padd_coef q r j
theorem pmul_assoc {p q r : List Rat} (hp : ptrim p = p) (hq : ptrim q = q) (hr : ptrim r = r) : pmul p (pmul q r) = pmul (pmul p q) r :=
  ptrim_self (pmul_trim hp (pmul_trim hq hr)) (pmul_trim (pmul_trim hp hq) hr) fun i => by
    rw [pmul_coef, pmul_coef, cv_congr (a' := cv (coef p) (coef q)) (b' := coef r) (fun j _ => pmul_coef p q j) (fun _ _ => rfl), cv_assoc]
    exact cv_congr (fun _ _ => rfl) fun j _ => pmul_coef q r j
theorem psub_padd {p q : List Rat} (hp : ptrim p = p) : psub (padd p q) q = p :=
  ptrim_self (psub_trim _ _) hp fun i => by rw [psub_coef, padd_coef]; grind
end Go.Proofs.YtjbnclfbkccieaaGreatDoor
namespace Go.Proofs.YtjbnclfbkccieaaGreatDoor
open Go.RowKit
theorem fld_rest (A : Option Addr) (n c : Nat) (A' : Option Addr) (n' c' : Nat) (w : World) : (Instr.field 84 (.agg #[.slice A n c, .slice A' n' c']) 1).run Tryz.prog w = .ok (.slice A' n' c') w := by kernel_rfl
/-- A polynomial without zeros at its end. -/
def Tr (l : List Rat) : Prop := l = [] ∨ coef l (l.length - 1) ≠ 0
theorem Tr.of {l : List Rat} (h : ptrim l = l) : Tr l := trim_iff.1 h
theorem Tr.nil : Tr [] := Or.inl rfl
theorem Tr.ptrim (l : List Rat) : Tr (ptrim l) := Tr.of (ptrim_idem l)
theorem coef_app {l : List Rat} {y : Rat} {k : Nat} (h : k < l.length) : coef (l ++ [y]) k = coef l k := by
  unfold coef
  rw [List.getD_eq_getElem?_getD, List.getD_eq_getElem?_getD, List.getElem?_append_left h]
theorem coef_last (l : List Rat) (y : Rat) : coef (l ++ [y]) l.length = y := by
  unfold coef
  rw [List.getD_eq_getElem?_getD, List.getElem?_append_right (Nat.le_refl _), Nat.sub_self]
  rfl
theorem listO_get {f : Nat → Except Int Rat} : ∀ {n : Nat} {l : List Rat}, listO f n = .ok l → ∀ k, k < n → f k = .ok (coef l k)
  | 0, _, _, k, hk => absurd hk (Nat.not_lt_zero _)
  | n + 1, l, h, k, hk => by
    obtain ⟨m, hm, hf⟩ := thenO_inv h
    obtain ⟨y, hy, hl⟩ := thenO_inv hf
    injection hl with hl
    subst hl
    have e := listO_len hm
    by_cases c : k < n
    · rw [coef_app (by rw [e]; exact c)]; exact listO_get hm k c
    · have : k = m.length := by omega
      subst this
      rw [coef_last, e]; exact hy
theorem divO_ok {x y z : Rat} (h : divO x y = .ok z) : z = x / y := (if_okO h).2.symm
theorem monicO_tr {l r : List Rat} (h : monicO l = .ok r) (hl : Tr l) : Tr r ∧ r.length = l.length := by
  have e := listO_len h
  refine ⟨?_, e⟩
  rcases hl with hl | hl
  · subst hl; injection h with h; subst h; exact Tr.nil
  · by_cases h0 : r.length = 0
    · exact Or.inl (List.eq_nil_of_length_eq_zero h0)
    · right
      have := divO_ok (listO_get h (r.length - 1) (by omega))
      rw [this, e, Rat.div_def, Rat.mul_inv_cancel _ hl]
      decide
theorem pdivO_len {a b : List Rat} {d : List Rat × List Rat} (h : pdivO a b = .ok d) : d.2.length ≤ b.length - 1 ∧ Tr d.2 ∧ d.1.length = a.length - (b.length - 1) := by
  unfold pdivO at h
  split at h
  · cases h
  · obtain ⟨s, hs, hd⟩ := thenO_inv h
    injection hd with hd
    subst hd
    refine ⟨Nat.le_trans (ptrim_len _) (by rw [List.length_take]; omega), Tr.ptrim _, ?_⟩
    have : ∀ n s, stepsO (fun j s => rowO b (a.length - (b.length - 1) - 1 - j) s) ([], a) n = .ok s → s.1.length = n := by
      intro n
      induction n with
      | zero => intro s h; injection h with h; subst h; rfl
      | succ n ih =>
        intro s h
        obtain ⟨t, ht, hr⟩ := thenO_inv h
        unfold rowO at hr
        obtain ⟨c, _, hr⟩ := thenO_inv hr
        obtain ⟨u, _, hr⟩ := thenO_inv hr
        injection hr with hr
        subst hr
        show t.1.length + 1 = _
        rw [ih t ht]
    show s.1.length = _
    exact this _ s hs
/-- A round of Euclid's algorithm. -/
def GdR (w : World) (F : Nat) (p q : List Rat) (A : Option Addr) (n c : Nat) (A' : Option Addr) (n' c' : Nat) (wr : World) : Prop :=
  ∃ (L L' : List RVal) (a b : List Rat) (f : Nat), Mem w wr [.pol A' n' c' L', .pol A n c L] ∧ Vs L a ∧ Vs L' b ∧ Tr a ∧ Tr b ∧ n ≤ 100000 ∧ n' ≤ 100000 ∧ b.length ≤ f ∧ gcdO F p q = gcdO f a b
theorem gcdO_nil {f : Nat} {a b : List Rat} (h : b.length = 0) : gcdO f a b = monicO a := by
  rcases f with _ | f
  · rfl
  · show (if b.length = 0 then monicO a else _) = _
    rw [if_pos h]
set_option linter.unusedSimpArgs false in
set_option maxRecDepth 20000 in
set_option maxHeartbeats 4000000 in
theorem ugcd_any (A : Option Addr) (n c : Nat) (L : List RVal) (a : List Rat) (A' : Option Addr) (n' c' : Nat) (L' : List RVal) (b : List Rat) (F : Nat) (w : World) (h : PSl w A n c L) (hv : Vs L a) (h' : PSl w A' n' c' L') (hv' : Vs L' b)
    (hn : n ≤ 100000) (hn' : n' ≤ 100000) (ha : Tr a) (hb : Tr b) (hF : b.length ≤ F) : Calls Tryz.prog 83 #[.slice A n c, .slice A' n' c'] w (OutP (gcdO F a b) w) := by
  have H0 := hI (show GdR w F a b A n c A' n' c' w from ⟨L, L', a, b, F, (((Mem.nil w).old (x := .pol A n c L) (by simp) h rfl).old (x := .pol A' n' c' L') (by simp [Rs.own]) h' rfl), hv, hv', ha, hb, hn, hn', hF, rfl⟩)
  clear h h' hv hv' ha hb hF hn hn'
  go_enter Tryz.func83, Tryz.ntmps83
  go_wp2_with fail
  go_loopw [0, 1] (fun x y wr => ∃ (A1 : Option Addr) (n1 c1 : Nat) (A2 : Option Addr) (n2 c2 : Nat), x = .slice A1 n1 c1 ∧ y = .slice A2 n2 c2 ∧ Hid (GdR w F a b A1 n1 c1 A2 n2 c2 wr)) (fun _ y _ => match y with | .slice _ n _ => n | _ => 0)
  case atStart => exact ⟨A, n, c, A', n', c', rfl, rfl, H0⟩
  case round =>
    obtain ⟨A1, n1, c1, A2, n2, c2, rfl, rfl, HR⟩ := hrel
    clear H0
    obtain ⟨L1, L2, a1, b1, f, HR1⟩ := HR.out
    have HR := hI HR1
    clear HR1
    have N2 := hI (show n2 = b1.length by rw [← HR.out.2.2.1.len, (HR.out.1.pol 0 rfl).len])
    by_cases hlt : 0 < n2
    · obtain ⟨f, rfl⟩ : ∃ g, f = g + 1 := ⟨f - 1, by have := HR.out.2.2.2.2.2.2.2.1; have := N2.out; omega⟩
      have HF := hI HR.out.2.2.2.2.2.2.2.1
      have HS := hI (show gcdO F a b = thenO (pdivO a1 b1) fun d => thenO (monicO d.2) fun r => gcdO f b1 r by
        rw [HR.out.2.2.2.2.2.2.2.2]
        show (if b1.length = 0 then monicO a1 else _) = _
        rw [if_neg (by rw [← N2.out]; omega)])
      go_wp2_with fail
      have C := udiv_any A1 n1 c1 L1 a1 A2 n2 c2 L2 b1 wr (HR.out.1.pol 1 rfl) HR.out.2.1 (HR.out.1.pol 0 rfl) HR.out.2.2.1 (by have := HR.out.2.2.2.2.2.1; omega) (by have := HR.out.2.2.2.2.2.2.1; omega) HR.out.2.2.2.2.1
      rcases hz : pdivO a1 b1 with er | d
      · rw [hz] at C
        (with_reducible refine C.mono ?_)
        clear C
        rintro e wE ⟨rfl, hb⟩
        have HB := hI ((hI HR.out.1).out.on hb).bel
        have HE := hI (show gcdO F a b = .error er from HS.out.trans (thenO_err hz _))
        clear hb hz
        go_wp2
        exact ⟨rfl, by rw [HE.out]; exact ⟨rfl, HB.out⟩⟩
      · rw [hz] at C
        (with_reducible refine C.mono ?_)
        clear C
        rintro e w1 ⟨Aq, nq, cq, Lq, Ar, nr, cr, Lr, rfl, hp, hv, hf, hp2, hv2, hf2, hb⟩
        have VD := hI (And.intro hz (And.intro hv2 (show nr = d.2.length by rw [← Vs.len hv2, hp2.len])))
        have M1 := hI ((hI HR.out.1).out.addPol hb hp2 hf2)
        clear hp hv hf hb hz hp2 hv2 hf2 
        have hfd := fld_rest Aq nq cq Ar nr cr
        go_wp2_with fail
        have C := umonic_any Ar nr cr Lr d.2 w1 (M1.out.pol 0 rfl) VD.out.2.1 (by have := (pdivO_len VD.out.1).1; have := VD.out.2.2; have := N2.out; have := HR.out.2.2.2.2.2.2.1; omega) (pdivO_len VD.out.1).2.1
        rcases hz : monicO d.2 with er | r
        · rw [hz] at C
          (with_reducible refine C.mono ?_)
          clear C
          rintro e wE ⟨rfl, hb⟩
          have HB := hI (M1.out.on hb).bel
          have HE := hI (show gcdO F a b = .error er from HS.out.trans (by rw [VD.out.1]; exact thenO_err hz _))
          clear hb hz
          go_wp2
          exact ⟨rfl, by rw [HE.out]; exact ⟨rfl, HB.out⟩⟩
        · rw [hz] at C
          (with_reducible refine C.mono ?_)
          clear C
          rintro e w2 ⟨A3, n3, c3, L3, rfl, hp, hv, hf, hb⟩
          have V3 := hI (And.intro hv (And.intro hz (show n3 = r.length by rw [← Vs.len hv, hp.len])))
          have M2 := hI (M1.out.addPol hb hp hf)
          have F3 := hI (show ∀ ad, A3 = some ad → w.heap.size ≤ ad.block from fun ad e => Nat.le_trans M1.out.bel.size (hf ad e))
          clear hp hv hf hb hz M1 hfd
          have HR2 := hI (show GdR w F a b A2 n2 c2 A3 n3 c3 w2 from ⟨L2, L3, b1, r, f, M2.out.sub (by simp), HR.out.2.2.1, V3.out.1, HR.out.2.2.2.2.1, (monicO_tr V3.out.2.1 (pdivO_len VD.out.1).2.1).1, HR.out.2.2.2.2.2.2.1, (by rw [V3.out.2.2, (monicO_tr V3.out.2.1 (pdivO_len VD.out.1).2.1).2]; have := (pdivO_len VD.out.1).1; have := N2.out; have := HR.out.2.2.2.2.2.2.1; omega), (by rw [(monicO_tr V3.out.2.1 (pdivO_len VD.out.1).2.1).2]; have := (pdivO_len VD.out.1).1; have := N2.out; have := HF.out; omega), HS.out.trans (by show thenO (pdivO a1 b1) _ = _; rw [VD.out.1]; show thenO (monicO d.2) _ = _; rw [V3.out.2.1]; rfl)⟩)
          have hlt3 : n3 < n2 := by rw [V3.out.2.2, (monicO_tr V3.out.2.1 (pdivO_len VD.out.1).2.1).2]; have := (pdivO_len VD.out.1).1; have := N2.out; omega
          clear M2
          go_wp2
          go_roundw
          case rel => exact ⟨A2, n2, c2, A3, n3, c3, rfl, rfl, HR2⟩
          case measure => exact hlt3
    · have hz : n2 = 0 := by omega
      subst hz
      have HS := hI (show gcdO F a b = monicO a1 by rw [HR.out.2.2.2.2.2.2.2.2]; exact gcdO_nil N2.out.symm)
      clear hlt
      go_wp2_with fail
      have C := umonic_any A1 n1 c1 L1 a1 wr (HR.out.1.pol 1 rfl) HR.out.2.1 (by have := HR.out.2.2.2.2.2.1; omega) HR.out.2.2.2.1
      rcases hz : monicO a1 with er | r
      · rw [hz] at C
        (with_reducible refine C.mono ?_)
        clear C
        rintro e wE ⟨rfl, hb⟩
        have HB := hI (HR.out.1.on hb).bel
        have HE := hI (HS.out.trans hz)
        clear hb hz
        go_wp2
        exact ⟨rfl, by rw [HE.out]; exact ⟨rfl, HB.out⟩⟩
      · rw [hz] at C
        (with_reducible refine C.mono ?_)
        clear C
        rintro e w1 ⟨A3, n3, c3, L3, rfl, hp, hv, hf, hb⟩
        have HE := hI (HS.out.trans hz)
        have HB := hI (HR.out.1.on hb).bel
        have HP := hI (And.intro hp (And.intro hv (show ∀ ad, A3 = some ad → w.heap.size ≤ ad.block from fun ad e => Nat.le_trans HR.out.1.bel.size (hf ad e))))
        clear hp hv hf hb hz
        go_wp2
        go_ret
        rw [HE.out]
        exact ⟨_, _, _, _, rfl, HP.out.1, HP.out.2.1, HP.out.2.2, HB.out⟩
end Go.Proofs.YtjbnclfbkccieaaGreatDoor
