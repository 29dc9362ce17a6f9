/-
 Stage 3: the program's Check. Stage 3: rationals over a power of one integer: how great they are, and that the program's operations on them make no error. Stage 3: products and sums of rationals over a power of one integer; the division's values. Stage 3: lists of rationals over one common denominator: how great a division makes them, and that it makes no error there. Stage 3: Euclid's algorithm makes no error on small polynomials of low degree: Pell's numbers say how great the rests become. Stage 3: resultants of small polynomials of low degree make no error. Stage 3: the values of UnipolyDiv
-/
import Derived.Test.YtmncfbfepdbioaaGreatDoorPolV
import Derived.Test.YtmncfbfepdbioaaGreatDoorPolQ
set_option linter.unusedSimpArgs false
set_option linter.unusedVariables false
set_option maxRecDepth 20000
set_option maxHeartbeats 4000000
namespace Go.Proofs.YtmncfbfepdbioaaGreatDoor
open Go.RowKit
def chkE (L : List RVal) : Int := if L.any (fun q => q.v.isNone) = true then 1 else if L.length ≠ 0 /\ (L.getD (L.length - 1) RVal.nil).n = 0 then 1 else if 65 < L.length then 2 else 0
def CkR (w : World) (A : Option Addr) (n c : Nat) (L : List RVal) (k : Nat) (wr : World) : Prop := Mem w wr [.pol A n c L] /\ ∀ (j : Nat) (q : RVal), j < k -> L[j]? = some q -> q.v.isNone = false
theorem chk_bad {L : List RVal} {k : Nat} {q : RVal} (h : L[k]? = some q) (hv : q.v.isNone = true) : chkE L = 1 := by
 unfold chkE
 rw [if_pos]
 exact List.any_eq_true.2 ⟨q, List.mem_of_getElem? h, hv⟩
theorem chk_all {L : List RVal} (h : ∀ (j : Nat) (q : RVal), j < L.length -> L[j]? = some q -> q.v.isNone = false) : chkE L = if L.length ≠ 0 /\ (L.getD (L.length - 1) RVal.nil).n = 0 then 1 else if 65 < L.length then 2 else 0 := by
 unfold chkE
 rw [if_neg]
 intro k
 obtain ⟨q, hq, hv⟩ := List.any_eq_true.1 k
 obtain ⟨j, hj, e⟩ := List.mem_iff_getElem.1 hq
 rw [h j q hj (by rw [List.getElem?_eq_getElem hj, e])] at hv
 cases hv
theorem getD_some {L : List RVal} {k : Nat} {q : RVal} (h : L[k]? = some q) : L.getD k RVal.nil = q := by rw [List.getD_eq_getElem?_getD, h]; rfl
def RetB (b : Int) (w : World) (e : Ending) (w' : World) : Prop := e = .returned (.int .i64 b) /\ Below w.heap.size w w'
theorem ucheck_any (A : Option Addr) (n c : Nat) (L : List RVal) (w : World) (h : PSl w A n c L) (hn : n <= 100000) : Calls Tryz.prog 22 #[.slice A n c] w (RetB (chkE L) w) := by
 have HN := hI h.len
 have H0 := hI (show CkR w A n c L 0 w from ⟨(Mem.nil w).old (x := .pol A n c L) (by simp) h rfl, fun j q hj => absurd hj (Nat.not_lt_zero _)⟩)
 clear h
 go_enter Tryz.func22, Tryz.ntmps22
 go_wp2_with fail
 go_loopw [7] (fun v wr => ∃ k : Nat, v = .int .i64 k /\ k <= n /\ Hid (CkR w A n c L k wr)) (fun v _ => n - (intOf v).toNat)
 case atStart => exact ⟨0, rfl, Nat.zero_le _, H0⟩
 case round =>
  obtain ⟨k, rfl, hk, HR⟩ := hrel
  clear H0
  by_cases hlt : k < n
  . obtain ⟨ad, q, p, rfl, hq, hp⟩ := (HR.out.1.pol 0 rfl).el hlt
    have HQ := hI hq
    have M := hI (HR.out.1.newBox ((HR.out.1.pol 0 rfl).ins q (List.mem_of_getElem? hq)) _ rfl)
    obtain ⟨x0, x1, x2, x3⟩ := (M.out.pol 1 rfl).c4 rfl hq hp
    obtain ⟨y0, y1, y2, y3⟩ := (HR.out.1.pol 0 rfl).c4 rfl hq hp
    clear hq
    go_wp2_with fail
    clear x0 x1 x2 x3 y0 y1 y2 y3
    generalize hW : World.alloc wr _ = V at *
    clear hW
    have C := ratValid_r (q := q) (w := V) (M.out.box 0 rfl).sl
    rw [show rv q.o q.od = q.v from rfl] at C
    rcases hv : q.v with _ | x
    . rw [hv] at C
      refine C.mono ?_
      clear C
      rintro e w1 ⟨rfl, hb⟩
      have HB := hI (M.out.on hb).bel
      have HE := hI (chk_bad HQ.out (by rw [hv]; rfl))
      clear hb hv
      go_wp2
      go_ret
      exact ⟨by rw [HE.out]; rfl, HB.out⟩
    . rw [hv] at C
      refine C.mono ?_
      clear C
      rintro e w1 ⟨rfl, hb⟩
      have HR2 := hI (show CkR w (some ad) n c L (k + 1) w1 from ⟨(M.out.on hb).drop 1, fun j q' hj hq' => by
       by_cases e : j < k
       . exact HR.out.2 j q' e hq'
       . have : j = k := by omega
         subst this
         rw [HQ.out] at hq'
         injection hq' with hq'
         subst hq'
         rw [hv]; rfl⟩)
      clear hb hv M
      go_wp2
      go_roundw
      case rel => exact ⟨k + 1, by go_num, by omega, HR2⟩
      case measure => simp [intOf]; omega
  . have hkm : n = k := by omega
    subst hkm
    have HE := hI (chk_all (L := L) (by rw [HN.out]; exact HR.out.2))
    clear hlt hk
    rcases Nat.eq_zero_or_pos n with h0 | h0
    . subst h0
      have HE2 := hI (show chkE L = 0 by rw [HE.out, HN.out, if_neg (by omega), if_neg (by omega)])
      go_wp2
      go_ret
      exact ⟨by rw [HE2.out]; rfl, HR.out.1.bel⟩
    . obtain ⟨ad, q, p, rfl, hq, hp⟩ := (HR.out.1.pol 0 rfl).el (k := n - 1) (by omega)
      have HQ := hI hq
      have HIn := hI ((HR.out.1.pol 0 rfl).ins q (List.mem_of_getElem? hq))
      obtain ⟨x0, x1, x2, x3⟩ := (HR.out.1.pol 0 rfl).c4 rfl hq hp
      clear hq
      have hl1 : (n : Int) - 1 = ((n - 1 : Nat) : Int) := by omega
      have hl2 : ((n - 1 : Nat) : Int) < n := by omega
      have hl3 : (0 : Int) <= ((n - 1 : Nat) : Int) := by omega
      go_wp2_with fail
      clear x0 x1 x2 x3
      have C := uisZero_any q wr HIn.out
      rcases hz : decide (q.n = 0) with _ | _
      . rw [hz] at C
        refine C.mono ?_
        clear C
        rintro e w1 ⟨rfl, hb⟩
        have HB := hI (HR.out.1.on hb).bel
        have hz2 := of_decide_eq_false hz
        by_cases h65 : 65 < n
        . have HE2 := hI (show chkE L = 2 by rw [HE.out, HN.out, getD_some HQ.out, if_neg (by simp [hz2]), if_pos h65])
          clear hb hz hz2
          go_wp2
          go_ret
          exact ⟨by rw [HE2.out]; rfl, HB.out⟩
        . have HE2 := hI (show chkE L = 0 by rw [HE.out, HN.out, getD_some HQ.out, if_neg (by simp [hz2]), if_neg h65])
          clear hb hz hz2
          go_wp2
          go_ret
          exact ⟨by rw [HE2.out]; rfl, HB.out⟩
      . rw [hz] at C
        refine C.mono ?_
        clear C
        rintro e w1 ⟨rfl, hb⟩
        have HB := hI (HR.out.1.on hb).bel
        have HE2 := hI (show chkE L = 1 by rw [HE.out, HN.out, getD_some HQ.out, if_pos ⟨by omega, of_decide_eq_true hz⟩])
        clear hb hz
        go_wp2
        go_ret
        exact ⟨by rw [HE2.out]; rfl, HB.out⟩
theorem chk_ok {L : List RVal} {l : List Rat} {w : World} {A : Option Addr} {n c : Nat} (h : PSl w A n c L) (hv : Vs L l) (ht : Tr l) (hl : l.length <= 65) : chkE L = 0 := by
 have hL := hv.len
 rw [chk_all (fun j q hj hq => by rw [hv.at_ hq]; rfl), if_neg, if_neg (by omega)]
 rintro ⟨h0, h1⟩
 obtain ⟨q, hq⟩ : ∃ q, L[L.length - 1]? = some q := ⟨_, List.getElem?_eq_getElem (by omega)⟩
 rw [getD_some hq] at h1
 have hn := n_zero (h.ins q (List.mem_of_getElem? hq)) (hv.at_ hq)
 rw [decide_eq_true h1] at hn
 have h2 := of_decide_eq_true hn.symm
 rcases ht with ht | ht
 . rw [ht] at hL; simp at hL; rw [hL] at h0; exact h0 rfl
 . rw [<- hL] at ht; exact ht (Rat.num_eq_zero.1 h2)
end Go.Proofs.YtmncfbfepdbioaaGreatDoor
namespace Go.Proofs.YtmncfbfepdbioaaGreatDoor
def Cd (L : Int) (E N : Nat) (x : Rat) : Prop := ∃ z : Int, x * ((L ^ E : Int) : Rat) = (z : Rat) /\ z.natAbs <= N
section
variable {L : Int} {E F N M : Nat} {x y : Rat}
theorem lpow_ne (hL : L ≠ 0) (E : Nat) : L ^ E ≠ 0 := Int.pow_ne_zero hL
theorem cast_int_ne {z : Int} (h : z ≠ 0) : (z : Rat) ≠ 0 := by
 intro e
 have := congrArg Rat.num e
 rw [Rat.num_intCast] at this
 exact h this
theorem cd_div (hL : L ≠ 0) {z : Int} (h : x * ((L ^ E : Int) : Rat) = (z : Rat)) : x = Rat.divInt z (L ^ E) := by
 have hp := cast_int_ne (lpow_ne hL E)
 rw [Rat.divInt_eq_div, <- h]
 grind
theorem Cd.small (hL : L ≠ 0) (h : Cd L E N x) : x.num.natAbs <= N /\ x.den <= L.natAbs ^ E := by
 obtain ⟨z, e, hz⟩ := h
 rw [cd_div hL e]
 have := divInt_le z (L ^ E) (lpow_ne hL E)
 rw [Int.natAbs_pow] at this
 exact ⟨Nat.le_trans this.1 hz, this.2⟩
theorem Cd.zero (L : Int) (E N : Nat) : Cd L E N 0 := ⟨0, by grind, Nat.zero_le _⟩
theorem Cd.mono (h : Cd L E N x) (k : N <= M) : Cd L E M x := by obtain ⟨z, e, hz⟩ := h; exact ⟨z, e, Nat.le_trans hz k⟩
theorem Cd.int (h : Ib N x) : Cd L 0 N x := by
 obtain ⟨z, rfl, hz⟩ := h
 exact ⟨z, by rw [Int.pow_zero]; grind, hz⟩
theorem Cd.add (h : Cd L E N x) (k : Cd L E M y) : Cd L E (N + M) (x + y) := by
 obtain ⟨z, e, hz⟩ := h
 obtain ⟨u, f, hu⟩ := k
 exact ⟨z + u, by rw [Rat.intCast_add, <- e, <- f]; grind, by omega⟩
theorem Cd.sub (h : Cd L E N x) (k : Cd L E M y) : Cd L E (N + M) (x - y) := by
 obtain ⟨z, e, hz⟩ := h
 obtain ⟨u, f, hu⟩ := k
 exact ⟨z - u, by rw [Rat.intCast_sub, <- e, <- f]; grind, by omega⟩
theorem Cd.mul (h : Cd L E N x) (k : Cd L F M y) : Cd L (E + F) (N * M) (x * y) := by
 obtain ⟨z, e, hz⟩ := h
 obtain ⟨u, f, hu⟩ := k
 exact ⟨z * u, by rw [Rat.intCast_mul, <- e, <- f, Int.pow_add, Rat.intCast_mul]; grind, by rw [Int.natAbs_mul]; exact Nat.mul_le_mul hz hu⟩
theorem Cd.up (h : Cd L E N x) {K : Nat} (hK : L.natAbs <= K) : Cd L (E + 1) (N * K) x := by
 obtain ⟨z, e, hz⟩ := h
 exact ⟨z * L, by rw [Rat.intCast_mul, <- e, Int.pow_succ, Rat.intCast_mul]; grind, by rw [Int.natAbs_mul]; exact Nat.mul_le_mul hz hK⟩
theorem Cd.div (hL : L ≠ 0) (h : Cd L E N x) : Cd L (E + 1) N (x / (L : Rat)) := by
 obtain ⟨z, e, hz⟩ := h
 have := cast_int_ne hL
 exact ⟨z, by rw [<- e, Int.pow_succ, Rat.intCast_mul]; grind, hz⟩
end
def rowV (q rest : List Rat) (c : Rat) (k i : Nat) : List Rat := (List.range rest.length).map fun j => if k <= j /\ j < k + i then coef rest j - c * coef q (j - k) else coef rest j
theorem map_coef (l : List Rat) : (List.range l.length).map (coef l) = l := by
 refine List.ext_getElem (by rw [List.length_map, List.length_range]) fun i h1 h2 => ?_
 rw [List.getElem_map, List.getElem_range]
 unfold coef
 rw [List.getD_eq_getElem?_getD, List.getElem?_eq_getElem h2]
 rfl
theorem rowV_zero (q rest : List Rat) (c : Rat) (k : Nat) : rowV q rest c k 0 = rest := by
 unfold rowV
 conv => rhs; rw [<- map_coef rest]
 refine List.map_congr_left fun j _ => ?_
 rw [if_neg (by omega)]
theorem rowV_succ (q rest : List Rat) (c : Rat) (k i : Nat) : (rowV q rest c k i).set (k + i) (coef rest (k + i) - c * coef q i) = rowV q rest c k (i + 1) := by
 unfold rowV
 refine List.ext_getElem (by simp) fun j h1 h2 => ?_
 rw [List.getElem_set]
 by_cases h : k + i = j
 . subst h
   rw [if_pos rfl, List.getElem_map, List.getElem_range, if_pos (by omega), show k + i - k = i by omega]
 . rw [if_neg h, List.getElem_map, List.getElem_range, List.getElem_map, List.getElem_range]
   by_cases g : k <= j /\ j < k + i
   . rw [if_pos g, if_pos (by omega)]
   . rw [if_neg g, if_neg (by omega)]
theorem rowV_coef (q rest : List Rat) (c : Rat) (k i j : Nat) (h : j < rest.length) (hj : ¬ (k <= j /\ j < k + i)) : coef (rowV q rest c k i) j = coef rest j := by
 unfold rowV
 rw [coef_map_range, if_pos h, if_neg hj]
def nbd (A B K : Nat) : Nat -> Nat
 | 0 => A
 | j + 1 => nbd A B K j * K + nbd A B K j * B
section
variable {L : Int} {A B K : Nat} {q : List Rat}
end
end Go.Proofs.YtmncfbfepdbioaaGreatDoor
namespace Go.Proofs.YtmncfbfepdbioaaGreatDoor
section
variable {L : Int} {E N M B K : Nat} {x y : Rat}
end
theorem pdivs_size (q : List Rat) : ∀ (k : Nat) (quot rest : List Rat), (pdivs q k quot rest).1.length = quot.length + k
 | 0, quot, rest => rfl
 | k + 1, quot, rest => by
   show (pdivs q k _ _).1.length = _
   rw [pdivs_size q k, List.length_cons]
   omega
theorem pdiv_size (p q : List Rat) : (pdiv p q).1.length = p.length - (q.length - 1) := by
 show (pdivs q (p.length - (q.length - 1)) [] p).1.length = _
 rw [pdivs_size, List.length_nil, Nat.zero_add]
theorem pdiv_quot_trim {p q : List Rat} (hp : ptrim p = p) (hq : ptrim q = q) (h : q ≠ []) : ptrim (pdiv p q).1 = (pdiv p q).1 := by
 have c : coef q (q.length - 1) ≠ 0 := (trim_iff.1 hq).resolve_left h
 have s := pdiv_spec (p := p) c
 have l := pdiv_size p q
 have hq0 : q.length ≠ 0 := fun k => h (List.eq_nil_of_length_eq_zero k)
 rw [trim_iff]
 by_cases h0 : (pdiv p q).1 = []
 . exact Or.inl h0
 . right
   have l0 : (pdiv p q).1.length ≠ 0 := fun k => h0 (List.eq_nil_of_length_eq_zero k)
   have hp0 : p ≠ [] := by rintro rfl; rw [l] at l0; simp at l0
   have ct : coef p (p.length - 1) ≠ 0 := (trim_iff.1 hp).resolve_left hp0
   have st := s.1 (p.length - 1)
   rw [coef_past (p := (pdiv p q).2) (by have := s.2.1; omega), show p.length - 1 = (pdiv p q).1.length - 1 + (q.length - 1) by omega, pmul_top] at st
   intro z
   rw [z] at st
   refine ct ?_
   rw [show p.length - 1 = (pdiv p q).1.length - 1 + (q.length - 1) by omega, st]
   grind
end Go.Proofs.YtmncfbfepdbioaaGreatDoor
namespace Go.Proofs.YtmncfbfepdbioaaGreatDoor
def Ce (D : Int) (N : Nat) (x : Rat) : Prop := ∃ z : Int, x * (D : Rat) = (z : Rat) /\ z.natAbs <= N
def Cm (N : Nat) (l : List Rat) : Prop := ∃ D : Int, D ≠ 0 /\ D.natAbs <= N /\ ∀ i, Ce D N (coef l i)
section
variable {D E L : Int} {A B M N T a b c d : Nat} {x y : Rat}
theorem Ce.small (hD : D ≠ 0) (h : Ce D N x) : x.num.natAbs <= N /\ x.den <= D.natAbs := by
 obtain ⟨z, e, hz⟩ := h
 have hd := cast_int_ne hD
 have : x = Rat.divInt z D := by rw [Rat.divInt_eq_div, <- e]; grind
 rw [this]
 have := divInt_le z D hD
 exact ⟨Nat.le_trans this.1 hz, this.2⟩
theorem Ce.zero (D : Int) (N : Nat) : Ce D N 0 := ⟨0, by grind, Nat.zero_le _⟩
theorem Ce.mono (h : Ce D N x) (k : N <= M) : Ce D M x := by obtain ⟨z, e, hz⟩ := h; exact ⟨z, e, Nat.le_trans hz k⟩
theorem Ce.sub (h : Ce D N x) (k : Ce D M y) : Ce D (N + M) (x - y) := by
 obtain ⟨z, e, hz⟩ := h
 obtain ⟨u, f, hu⟩ := k
 exact ⟨z - u, by rw [Rat.intCast_sub, <- e, <- f]; grind, by omega⟩
theorem Ce.up (h : Ce D N x) (hL : L.natAbs <= B) : Ce (D * L) (N * B) x := by
 obtain ⟨z, e, hz⟩ := h
 exact ⟨z * L, by rw [Rat.intCast_mul, Rat.intCast_mul, <- e]; grind, by rw [Int.natAbs_mul]; exact Nat.mul_le_mul hz hL⟩
theorem Ce.mul (h : Ce D N x) (k : Ce E M y) : Ce (D * E) (N * M) (x * y) := by
 obtain ⟨z, e, hz⟩ := h
 obtain ⟨u, f, hu⟩ := k
 exact ⟨z * u, by rw [Rat.intCast_mul, Rat.intCast_mul, <- e, <- f]; grind, by rw [Int.natAbs_mul]; exact Nat.mul_le_mul hz hu⟩
theorem Ce.int (h : Ib N x) : Ce 1 N x := by
 obtain ⟨z, rfl, hz⟩ := h
 exact ⟨z, by grind, hz⟩
theorem subO_sz (hx : x.num.natAbs <= a) (hxd : x.den <= b) (hy : y.num.natAbs <= c) (hyd : y.den <= d) (h1 : a * d + c * b <= T) (h2 : b * d <= T) (hT : T < BIG) : subO x y = .ok (x - y) := by
 have a1 : (x.num * (y.den : Int)).natAbs <= a * d := by rw [Int.natAbs_mul, Int.natAbs_natCast]; exact Nat.mul_le_mul hx hyd
 have a2 : (y.num * (x.den : Int)).natAbs <= c * b := by rw [Int.natAbs_mul, Int.natAbs_natCast]; exact Nat.mul_le_mul hy hxd
 have a3 : ((x.den : Int) * (y.den : Int)).natAbs <= b * d := by rw [Int.natAbs_mul, Int.natAbs_natCast, Int.natAbs_natCast]; exact Nat.mul_le_mul hxd hyd
 unfold subO
 rw [if_pos]
 rw [fz_of (B := T) (by omega) hT, fz_of (B := T) (by omega) hT, fz_of (B := T) (by omega) hT, fz_of (B := T) (by omega) hT]
 rfl
theorem mulO_sz (hx : x.num.natAbs <= a) (hxd : x.den <= b) (hy : y.num.natAbs <= c) (hyd : y.den <= d) (h1 : a * c <= T) (h2 : b * d <= T) (hT : T < BIG) : mulO x y = .ok (x * y) := by
 unfold mulO
 rw [if_pos]
 rw [fz_of (B := T) (by rw [Int.natAbs_mul]; exact Nat.le_trans (Nat.mul_le_mul hx hy) h1) hT, fz_of (B := T) (by rw [Int.natAbs_mul, Int.natAbs_natCast, Int.natAbs_natCast]; exact Nat.le_trans (Nat.mul_le_mul hxd hyd) h2) hT]
 rfl
theorem divO_sz (hx : x.num.natAbs <= a) (hxd : x.den <= b) (hy : y.num.natAbs <= c) (hyd : y.den <= d) (h1 : a * d <= T) (h2 : b * c <= T) (hT : T < BIG) : divO x y = .ok (x / y) := by
 unfold divO
 rw [if_pos]
 rw [fz_of (B := T) (by rw [Int.natAbs_mul, Int.natAbs_natCast]; exact Nat.le_trans (Nat.mul_le_mul hx hyd) h1) hT, fz_of (B := T) (by rw [Int.natAbs_mul, Int.natAbs_natCast]; exact Nat.le_trans (Nat.mul_le_mul hxd hy) h2) hT]
 rfl
theorem Cm.mono {l : List Rat} (h : Cm N l) (k : N <= M) : Cm M l := by
 obtain ⟨D, h0, h1, h2⟩ := h
 exact ⟨D, h0, Nat.le_trans h1 k, fun i => (h2 i).mono k⟩
theorem Cm.pos {l : List Rat} (h : Cm N l) : 1 <= N := by
 obtain ⟨D, h0, h1, _⟩ := h
 omega
theorem Cm.int {l : List Rat} (h : IbL N l) (k : 1 <= N) : Cm N l := ⟨1, by decide, k, fun i => Ce.int (h i)⟩
theorem Cm.nil (h : 1 <= N) : Cm N [] := ⟨1, by decide, h, fun i => by rw [coef_nil]; exact Ce.zero _ _⟩
theorem Cm.one : Cm 1 [1] := Cm.int (fun i => by
 cases i with
 | zero => exact ⟨1, rfl, by decide⟩
 | succ i => rw [coef_succ, coef_nil]; exact Ib.zero _) (by decide)
theorem row_cm {q : List Rat} (hD : D ≠ 0) (hA : D.natAbs <= A) (hE : E ≠ 0) (hB : E.natAbs <= B) (hq : ∀ i, Ce E B (coef q i)) (hl : coef q (q.length - 1) * (E : Rat) = (L : Rat)) (hL : L ≠ 0) {k : Nat} {s : List Rat × List Rat} (hk : k + (q.length - 1) < s.2.length)
 (h1 : ∀ i, Ce D A (coef s.1 i)) (h2 : ∀ i, Ce D A (coef s.2 i)) (hb : (2 * A * B) * (2 * A * B) < BIG) :
 rowO q k s = .ok ((pstep q k s.2).1 :: s.1, (pstep q k s.2).2) /\ (∀ i, Ce (D * L) (2 * A * B) (coef ((pstep q k s.2).1 :: s.1) i)) /\ (∀ i, Ce (D * L) (2 * A * B) (coef (pstep q k s.2).2 i)) /\ (pstep q k s.2).2.length = s.2.length := by
 have A1 : 1 <= A := by omega
 have B1 : 1 <= B := by omega
 have hLB : L.natAbs <= B := by
  obtain ⟨z, e, hz⟩ := hq (q.length - 1)
  rw [hl] at e
  have := Rat.intCast_inj.1 e
  rw [this]; exact hz
 have hDL : D * L ≠ 0 := Int.mul_ne_zero hD hL
 have hdl : (D * L).natAbs <= A * B := by rw [Int.natAbs_mul]; exact Nat.mul_le_mul hA hLB
 have hAB : A <= A * B := Nat.le_mul_of_pos_right _ B1
 have hBA : B <= A * B := Nat.le_mul_of_pos_left _ A1
 have e2 : 2 * A * B = 2 * (A * B) := Nat.mul_assoc ..
 rw [e2] at hb ⊢
 generalize hP : A * B = P at *
 have hPP : P * P + 3 * (P * P) = (2 * P) * (2 * P) := by grind
 have P1 : 1 <= P := by omega
 have hPs : P <= P * P := Nat.le_mul_of_pos_right _ P1
 have ne : coef q (q.length - 1) ≠ 0 := fun h => by
  rw [h] at hl
  exact cast_int_ne hL (by rw [<- hl]; grind)
 have hl1 := cast_int_ne hL
 have he1 := cast_int_ne hE
 have st := (h2 (k + (q.length - 1))).small hD
 have sq := fun i => (hq i).small hE
 have mAP : A * P <= P * P := Nat.mul_le_mul_right _ hAB
 have mPB : P * B <= P * P := Nat.mul_le_mul_left _ hBA
 have mAA : A * A <= P * P := Nat.mul_le_mul hAB hAB
 have dc := divO_sz (T := (2 * P) * (2 * P)) st.1 st.2 (sq (q.length - 1)).1 (sq (q.length - 1)).2 (Nat.le_trans (Nat.mul_le_mul_left A hB) (by omega)) (Nat.le_trans (Nat.mul_le_mul_right B hA) (by omega)) hb
 have hc : Ce (D * L) P (coef s.2 (k + (q.length - 1)) / coef q (q.length - 1)) := by
  obtain ⟨z, e, hz⟩ := h2 (k + (q.length - 1))
  refine ⟨z * E, ?_, by rw [Int.natAbs_mul, <- hP]; exact Nat.mul_le_mul hz hB⟩
  rw [Rat.intCast_mul, Rat.intCast_mul, <- e, <- hl]
  grind
 have hcq : ∀ i, Ce (D * L) P (coef s.2 (k + (q.length - 1)) / coef q (q.length - 1) * coef q i) := fun i => by
  obtain ⟨z, e, hz⟩ := h2 (k + (q.length - 1))
  obtain ⟨u, f, hu⟩ := hq i
  refine ⟨z * u, ?_, by rw [Int.natAbs_mul, <- hP]; exact Nat.mul_le_mul hz hu⟩
  rw [Rat.intCast_mul, Rat.intCast_mul, <- e, <- f, <- hl]
  grind
 generalize hcc : coef s.2 (k + (q.length - 1)) / coef q (q.length - 1) = c at dc hc hcq
 have up : ∀ i, Ce (D * L) P (coef s.2 i) := fun i => by rw [<- hP]; exact (h2 i).up hLB
 have steps : ∀ i, i <= q.length - 1 -> stepsO (restO q c k) s.2 i = .ok (rowV q s.2 c k i) := by
  intro i
  induction i with
  | zero => intro _; rw [rowV_zero]; rfl
  | succ i ih =>
    intro hi
    rw [stepsO_succ, thenO_ok (ih (by omega))]
    unfold restO
    have cs := hc.small hDL
    have ts := (hcq i).small hDL
    have rs := (h2 (k + i)).small hD
    have m1 := mulO_sz (T := (2 * P) * (2 * P)) cs.1 cs.2 (sq i).1 (sq i).2 (by omega) (Nat.le_trans (Nat.mul_le_mul hdl hB) (by omega)) hb
    rw [thenO_ok m1, rowV_coef _ _ _ _ _ _ (by omega) (by omega)]
    have t1 : A * (D * L).natAbs <= P * P := Nat.le_trans (Nat.mul_le_mul_left A hdl) mAP
    have t2 : P * D.natAbs <= P * P := Nat.mul_le_mul_left P (by omega)
    have t3 : D.natAbs * (D * L).natAbs <= P * P := Nat.mul_le_mul (by omega) hdl
    have s1 := subO_sz (T := (2 * P) * (2 * P)) rs.1 rs.2 ts.1 ts.2 (by omega) (by omega) hb
    rw [thenO_ok s1, rowV_succ]
 have ep : pstep q k s.2 = (c, rowV q s.2 c k (q.length - 1)) := by
  show (coef s.2 (k + (q.length - 1)) / coef q (q.length - 1), (List.range s.2.length).map fun j => if k <= j /\ j < k + (q.length - 1) then coef s.2 j - (coef s.2 (k + (q.length - 1)) / coef q (q.length - 1)) * coef q (j - k) else coef s.2 j) = _
  rw [hcc]
  rfl
 rw [ep]
 refine ⟨?_, fun i => ?_, fun i => ?_, by show (rowV _ _ _ _ _).length = _; unfold rowV; rw [List.length_map, List.length_range]⟩
 . unfold rowO
   rw [thenO_ok dc, thenO_ok (steps _ (Nat.le_refl _))]
 . cases i with
   | zero => exact hc.mono (by omega)
   | succ i => rw [coef_succ, <- hP]; exact ((h1 i).up hLB).mono (by omega)
 . show Ce (D * L) _ (coef (rowV q s.2 c k (q.length - 1)) i)
   unfold rowV
   rw [coef_map_range]
   split
   . split
     . exact ((up _).sub (hcq _)).mono (by omega)
     . exact (up _).mono (by omega)
   . exact Ce.zero _ _
theorem two_pow_succ (A B j : Nat) : 2 * (A * (2 * B) ^ j) * B = A * (2 * B) ^ (j + 1) := by rw [Nat.pow_succ]; grind
theorem pdivO_cm {p q : List Rat} (hp : Cm A p) (hq : Cm B q) (h0 : coef q (q.length - 1) ≠ 0) (hb : (A * (2 * B) ^ (p.length - (q.length - 1))) * (A * (2 * B) ^ (p.length - (q.length - 1))) < BIG) :
 pdivO p q = .ok (pdiv p q) /\ Cm (A * (2 * B) ^ (p.length - (q.length - 1))) (pdiv p q).1 /\ Cm (A * (2 * B) ^ (p.length - (q.length - 1))) (pdiv p q).2 := by
 have B1 := hq.pos
 obtain ⟨D, hD, hDA, hp⟩ := hp
 obtain ⟨E, hE, hEB, hq⟩ := hq
 obtain ⟨L, hl, _⟩ := hq (q.length - 1)
 have hL : L ≠ 0 := fun h => by
  rw [h] at hl
  have h2 : coef q (q.length - 1) * (E : Rat) = 0 := hl
  rcases Rat.mul_eq_zero.1 h2 with k | k
  . exact h0 k
  . exact cast_int_ne hE k
 obtain ⟨n, hn⟩ : ∃ n, p.length - (q.length - 1) = n := ⟨_, rfl⟩
 rw [hn] at hb ⊢
 have key : ∀ j, j <= n -> ∃ (s : List Rat × List Rat) (D : Int), D ≠ 0 /\ D.natAbs <= A * (2 * B) ^ j /\ stepsO (fun j s => rowO q (n - 1 - j) s) ([], p) j = .ok s /\ pdivs q (n - j) s.1 s.2 = pdivs q n [] p /\ s.2.length = p.length /\ (∀ i, Ce D (A * (2 * B) ^ j) (coef s.1 i)) /\ ∀ i, Ce D (A * (2 * B) ^ j) (coef s.2 i) := by
  intro j
  induction j with
  | zero => intro _; exact ⟨([], p), D, hD, by rw [Nat.pow_zero, Nat.mul_one]; exact hDA, rfl, rfl, rfl, fun i => by rw [coef_nil]; exact Ce.zero _ _, fun i => (hp i).mono (by rw [Nat.pow_zero, Nat.mul_one]; exact Nat.le_refl _)⟩
  | succ j ih =>
    intro hj
    obtain ⟨s, D, hD, hDA, e1, e2, e3, c1, c2⟩ := ih (Nat.le_of_succ_le hj)
    clear ih
    have mono : A * (2 * B) ^ (j + 1) <= A * (2 * B) ^ n := Nat.mul_le_mul_left _ (Nat.pow_le_pow_right (by omega) hj)
    have hkk : n - 1 - j + (q.length - 1) < s.2.length := by omega
    have ej := two_pow_succ A B j
    have r := row_cm hD hDA hE hEB hq hl hL (k := n - 1 - j) (s := s) hkk c1 c2 (by rw [ej]; exact Nat.lt_of_le_of_lt (Nat.mul_le_mul mono mono) hb)
    rw [ej] at r
    refine ⟨((pstep q (n - 1 - j) s.2).1 :: s.1, (pstep q (n - 1 - j) s.2).2), D * L, Int.mul_ne_zero hD hL, ?_, (by rw [stepsO_succ, thenO_ok e1]; exact r.1), ?_, by rw [<- e3]; exact r.2.2.2, r.2.1, r.2.2.1⟩
    . rw [<- ej, Int.natAbs_mul]
      obtain ⟨z, e, hz⟩ := hq (q.length - 1)
      rw [hl] at e
      have hz2 : L.natAbs <= B := by rw [Rat.intCast_inj.1 e]; exact hz
      have m := Nat.mul_le_mul hDA hz2
      have e5 : 2 * (A * (2 * B) ^ j) * B = (A * (2 * B) ^ j) * B + (A * (2 * B) ^ j) * B := by grind
      omega
    . rw [<- e2, show n - j = (n - 1 - j) + 1 by omega, show n - (j + 1) = n - 1 - j by omega]
      rfl
 obtain ⟨s, D, hD, hDA, e1, e2, e3, c1, c2⟩ := key n (Nat.le_refl _)
 rw [Nat.sub_self] at e2
 have e4 : pdivs q n [] p = (s.1, s.2) := e2.symm
 have e5 : pdiv p q = (s.1, ptrim (s.2.take (min (q.length - 1) p.length))) := by
  show ((pdivs q (p.length - (q.length - 1)) [] p).1, ptrim ((pdivs q (p.length - (q.length - 1)) [] p).2.take (min (q.length - 1) p.length))) = _
  rw [hn, e4]
 rw [e5]
 refine ⟨?_, ⟨D, hD, hDA, c1⟩, ⟨D, hD, hDA, fun i => ?_⟩⟩
 . have hq0 : q.length ≠ 0 := fun h => h0 (coef_past (by omega))
   unfold pdivO
   rw [if_neg hq0, hn, thenO_ok e1]
 . rw [ptrim_coef, coef_take]
   split
   . exact c2 i
   . exact Ce.zero _ _
theorem monicO_cm {p : List Rat} (hp : Cm N p) (h0 : coef p (p.length - 1) ≠ 0) (hb : N * N < BIG) : monicO p = .ok (pmonic p) /\ Cm N (pmonic p) := by
 obtain ⟨D, hD, hDA, hp⟩ := hp
 have sm := fun i => (hp i).small hD
 have hd1 := cast_int_ne hD
 have e : (List.range p.length).map (fun i => coef p i / coef p (p.length - 1)) = pmonic p := by
  unfold pmonic
  conv => rhs; rw [<- map_coef p]
  rw [List.map_map]
  have e3 : (List.map (coef p) (List.range p.length)).length = p.length := by rw [map_coef]
  rw [e3, map_coef]
  rfl
 obtain ⟨L, hl, hL⟩ := hp (p.length - 1)
 have hL0 : L ≠ 0 := fun h => by
  rw [h] at hl
  have h2 : coef p (p.length - 1) * (D : Rat) = 0 := hl
  rcases Rat.mul_eq_zero.1 h2 with k | k
  . exact h0 k
  . exact hd1 k
 refine ⟨?_, L, hL0, hL, fun i => ?_⟩
 . rw [<- e]
   unfold monicO
   exact listO_ok fun i _ => divO_sz (T := N * N) (sm i).1 (sm i).2 (sm _).1 (sm _).2 (Nat.mul_le_mul_left _ hDA) (Nat.mul_le_mul_right _ hDA) hb
 . rw [pmonic_coef]
   obtain ⟨z, ez, hz⟩ := hp i
   exact ⟨z, by rw [<- ez, <- hl]; grind, hz⟩
end
end Go.Proofs.YtmncfbfepdbioaaGreatDoor
namespace Go.Proofs.YtmncfbfepdbioaaGreatDoor
def pl : Nat -> Nat
 | 0 => 1
 | 1 => 2
 | n + 2 => 2 * pl (n + 1) + pl n
theorem pl_two (n : Nat) : 2 * pl n <= pl (n + 1) := by
 cases n with
 | zero => decide
 | succ n => show 2 * pl (n + 1) <= 2 * pl (n + 1) + pl n; omega
theorem pl_mono {k n : Nat} (h : k <= n) : pl k <= pl n := by
 induction n with
 | zero => rw [Nat.le_zero.1 h]; exact Nat.le_refl _
 | succ n ih =>
   rcases Nat.lt_or_ge k (n + 1) with g | g
   . have := ih (by omega)
     have := pl_two n
     omega
   . rw [show k = n + 1 by omega]; exact Nat.le_refl _
theorem pl_pos (n : Nat) : 1 <= pl n := pl_mono (Nat.zero_le n)
theorem pl_gap {k D : Nat} (h : k <= D) : pl k + (D - k) <= pl D := by
 obtain ⟨j, rfl⟩ : ∃ j, D = k + j := ⟨D - k, by omega⟩
 rw [Nat.add_sub_cancel_left]
 clear h
 induction j with
 | zero => exact Nat.le_refl _
 | succ j ih =>
   have := pl_two (k + j)
   have := pl_pos (k + j)
   show pl k + (j + 1) <= pl (k + j + 1)
   omega
theorem pl_lin : ∀ n, n + 2 <= pl (n + 1)
 | 0 => by decide
 | n + 1 => by
   have := pl_lin n
   have := pl_two (n + 1)
   omega
theorem pl_skip (k : Nat) : ∀ j, pl k + (j + 2) * pl (k + 1) <= pl (k + j + 2)
 | 0 => by show pl k + 2 * pl (k + 1) <= 2 * pl (k + 1) + pl k; omega
 | j + 1 => by
   have h1 := pl_skip k j
   have h2 := pl_two (k + j + 2)
   have h3 : pl (k + 1) <= pl (k + j + 2) := pl_mono (by omega)
   have e : (j + 1 + 2) * pl (k + 1) = (j + 2) * pl (k + 1) + pl (k + 1) := by rw [show j + 1 + 2 = (j + 2) + 1 by omega, Nat.succ_mul]
   have e2 : pl (k + (j + 1) + 2) = pl (k + j + 2 + 1) := by congr 1
   omega
theorem pow_big : 2 ^ 4096 <= BIG := by decide +kernel
theorem two_big {z : Nat} (h : 2 * z < 4096) : 2 ^ z * 2 ^ z < BIG := by
 rw [<- Nat.pow_add]
 exact Nat.lt_of_lt_of_le (Nat.pow_lt_pow_right (by decide : 1 < 2) (show z + z < 4096 by omega)) pow_big
theorem two_rows (x y n : Nat) : 2 ^ x * (2 * 2 ^ y) ^ n = 2 ^ (x + n * (y + 1)) := by
 rw [show 2 * 2 ^ y = 2 ^ (y + 1) by rw [Nat.pow_succ]; omega, <- Nat.pow_mul, <- Nat.pow_add, Nat.mul_comm (y + 1)]
theorem two_le {x y : Nat} (h : x <= y) : 2 ^ x <= 2 ^ y := Nat.pow_le_pow_right (by decide) h
theorem top_ne {p : List Rat} (hp : ptrim p = p) (h : p.length ≠ 0) : coef p (p.length - 1) ≠ 0 := by
 rcases trim_iff.1 hp with e | e
 . rw [e] at h; exact absurd rfl h
 . exact e
theorem cons_one {p : List Rat} (hp : ptrim p = p) (h : p.length = 1) : pmonic p = [1] := by
 match p, h with
 | [a], _ =>
   have h1 := top_ne hp (by simp)
   have : a ≠ 0 := h1
   show [a / a] = [1]
   rw [Rat.div_def, Rat.mul_inv_cancel _ this]
theorem monicO_nil : monicO [] = .ok [] := rfl
theorem pdiv_rest_len {p q : List Rat} (h0 : coef q (q.length - 1) ≠ 0) : (pdiv p q).2.length <= q.length - 1 /\ ptrim (pdiv p q).2 = (pdiv p q).2 := (pdiv_spec h0).2
section
variable {D c : Nat}
theorem rest_monic {r : List Rat} {z : Nat} (hr : ptrim r = r) (h : Cm (2 ^ z) r) (hz : 2 * z < 4096) : monicO r = .ok (pmonic r) /\ Cm (2 ^ z) (pmonic r) := by
 by_cases h0 : r.length = 0
 . have e : r = [] := List.length_eq_zero_iff.1 h0
   subst e
   exact ⟨monicO_nil, h⟩
 . exact monicO_cm h (top_ne hr h0) (two_big hz)
theorem gcdO_run (hB : 2 * (c * pl D) < 4096) : ∀ (F : Nat) (p q : List Rat) (k x y : Nat), ptrim p = p -> ptrim q = q -> q.length < p.length -> p.length + k = D + 1 -> Cm (2 ^ x) p -> Cm (2 ^ y) q -> x + 1 <= c * pl k -> y + 1 <= c * pl (k + 1) -> (q.length = 1 -> q = [1]) -> q.length <= F →
 gcdO F p q = .ok (pgcd F p q) /\ Cm (2 ^ (c * pl D)) (pgcd F p q) := by
 intro F
 induction F with
 | zero =>
   intro p q k x y hp hq hl hk cp cq hx hy h1 hF
   have m : c * pl k <= c * pl D := Nat.mul_le_mul_left _ (pl_mono (by omega))
   have := rest_monic hp cp (by omega)
   exact ⟨this.1, this.2.mono (two_le (by omega))⟩
 | succ F ih =>
   intro p q k x y hp hq hl hk cp cq hx hy h1 hF
   unfold gcdO pgcd
   have mk : c * pl k <= c * pl D := Nat.mul_le_mul_left _ (pl_mono (by omega))
   by_cases h0 : q.length = 0
   . rw [if_pos h0, if_pos h0]
     have := rest_monic hp cp (by omega)
     exact ⟨this.1, this.2.mono (two_le (by omega))⟩
   . rw [if_neg h0, if_neg h0]
     have tq := top_ne hq h0
     by_cases h2 : q.length = 1
     . have e := h1 h2
       subst e
       have one : Cm (2 ^ 0) [1] := Cm.one
       have mx : k = 0 \/ 1 <= k := by omega
       have hrow : p.length - ([(1 : Rat)].length - 1) = p.length := by simp
       have fit : 2 * (x + p.length) < 4096 := by
        have hxk : c * pl k + (p.length - 1) <= c * pl D := by
         have e1 : p.length - 1 = D - k := by omega
         have : pl k + (D - k) <= pl D := pl_gap (by omega)
         have c1 : 1 <= c := by
          rcases Nat.eq_zero_or_pos c with z | z
          . rw [z, Nat.zero_mul] at hx; omega
          . exact z
         have := Nat.mul_le_mul_left c this
         rw [Nat.mul_add] at this
         have : D - k <= c * (D - k) := Nat.le_mul_of_pos_left _ c1
         omega
        simp at hl
        omega
       have dv := pdivO_cm cp one tq (by rw [hrow, two_rows]; exact two_big (by omega))
       rw [hrow, two_rows] at dv
       have rl := pdiv_rest_len (p := p) tq
       have re : (pdiv p [1]).2 = [] := List.length_eq_zero_iff.1 (by have := rl.1; simp at this; simp [this])
       rw [thenO_ok dv.1, re, thenO_ok monicO_nil]
       show gcdO F [1] (pmonic []) = .ok (pgcd F [1] (pmonic [])) /\ _
       have e3 : pmonic ([] : List Rat) = [] := rfl
       rw [e3]
       have e1 : gcdO F [1] [] = .ok (pgcd F [1] []) /\ pgcd F [1] [] = [1] := by
        cases F with
        | zero => exact ⟨by show monicO [1] = .ok (pmonic [1]); exact (rest_monic (r := [1]) (z := 0) hq one (by decide)).1, cons_one hq rfl⟩
        | succ F => exact ⟨by show monicO [1] = .ok (pmonic [1]); exact (rest_monic (r := [1]) (z := 0) hq one (by decide)).1, cons_one hq rfl⟩
       refine ⟨e1.1, ?_⟩
       rw [e1.2]
       exact one.mono (two_le (Nat.zero_le _))
     . obtain ⟨j, hj⟩ : ∃ j, p.length = q.length + 1 + j := ⟨p.length - q.length - 1, by omega⟩
       have hrow : p.length - (q.length - 1) = j + 2 := by omega
       have hsk := Nat.mul_le_mul_left c (pl_skip k j)
       rw [Nat.mul_add] at hsk
       have hyr : (j + 2) * (y + 1) <= c * ((j + 2) * pl (k + 1)) := by
        rw [show c * ((j + 2) * pl (k + 1)) = (j + 2) * (c * pl (k + 1)) by grind]
        exact Nat.mul_le_mul_left _ hy
       have top : c * pl (k + j + 2) <= c * pl D := Nat.mul_le_mul_left _ (pl_mono (by omega))
       have zb : x + (j + 2) * (y + 1) + 1 <= c * pl (k + j + 2) := by omega
       have dv := pdivO_cm cp cq tq (by rw [hrow, two_rows]; exact two_big (by omega))
       rw [hrow, two_rows] at dv
       have rl := pdiv_rest_len (p := p) tq
       have mo := rest_monic rl.2 dv.2.2 (by omega)
       rw [thenO_ok dv.1, thenO_ok mo.1]
       have ml := pmonic_len (pdiv p q).2
       have hyk : c * pl (k + 1) <= c * pl (k + j + 1) := Nat.mul_le_mul_left _ (pl_mono (by omega))
       exact ih q (pmonic (pdiv p q).2) (k + j + 1) y (x + (j + 2) * (y + 1)) hq (pmonic_trim rl.2) (by rw [ml]; omega) (by omega) cq mo.2 (by omega) zb (fun h => cons_one rl.2 (by rw [<- ml]; exact h)) (by rw [ml]; omega)
theorem gcdO_ok (c1 : 1 <= c) (hB : 2 * (c * pl D) < 4096) (hB2 : 2 * (c * (D + 2)) <= 4096) {F : Nat} {p q : List Rat} (hp : ptrim p = p) (hq : ptrim q = q) (lp : p.length <= D + 1) (lq : q.length <= D + 1) (cp : Cm (2 ^ (c - 1)) p) (cq : Cm (2 ^ (c - 1)) q) (hF : q.length <= F) :
 gcdO F p q = .ok (pgcd F p q) /\ Cm (2 ^ (c * pl D)) (pgcd F p q) := by
 have m0 : c * 1 <= c * pl D := Nat.mul_le_mul_left _ (pl_pos D)
 cases F with
 | zero =>
   have := rest_monic hp cp (by omega)
   exact ⟨this.1, this.2.mono (two_le (by omega))⟩
 | succ F =>
   unfold gcdO pgcd
   by_cases h0 : q.length = 0
   . rw [if_pos h0, if_pos h0]
     have := rest_monic hp cp (by omega)
     exact ⟨this.1, this.2.mono (two_le (by omega))⟩
   . rw [if_neg h0, if_neg h0]
     have tq := top_ne hq h0
     obtain ⟨n, hn⟩ : ∃ n, p.length - (q.length - 1) = n := ⟨_, rfl⟩
     have hnD : n + q.length <= D + 2 := by omega
     have e1 : c - 1 + n * c + 1 = c * (n + 1) := by rw [Nat.mul_succ, Nat.mul_comm]; omega
     have m1 : c * (n + 1) <= c * (D + 2) := Nat.mul_le_mul_left _ (by omega)
     have dv := pdivO_cm cp cq tq (by rw [hn, two_rows, Nat.sub_add_cancel c1]; exact two_big (by omega))
     rw [hn, two_rows, Nat.sub_add_cancel c1] at dv
     have rl := pdiv_rest_len (p := p) tq
     have mo := rest_monic rl.2 dv.2.2 (by omega)
     rw [thenO_ok dv.1, thenO_ok mo.1]
     have ml := pmonic_len (pdiv p q).2
     obtain ⟨k, hk⟩ : ∃ k, q.length + k = D + 1 := ⟨D + 1 - q.length, by omega⟩
     have m2 : c * 1 <= c * pl k := Nat.mul_le_mul_left _ (pl_pos k)
     have m3 : c * (n + 1) <= c * pl (k + 1) := Nat.mul_le_mul_left _ (Nat.le_trans (by omega) (pl_lin k))
     exact gcdO_run hB F q (pmonic (pdiv p q).2) k (c - 1) (c - 1 + n * c) hq (pmonic_trim rl.2) (by rw [ml]; omega) hk cq mo.2 (by omega) (by omega) (fun h => cons_one rl.2 (by rw [<- ml]; exact h)) (by rw [ml]; omega)
end
end Go.Proofs.YtmncfbfepdbioaaGreatDoor
namespace Go.Proofs.YtmncfbfepdbioaaGreatDoor
def Bt (V : Nat) (v : Rat) : Prop := v.num.natAbs <= 2 ^ V /\ v.den <= 2 ^ V
theorem Bt.mono {V W : Nat} {v : Rat} (h : Bt V v) (k : V <= W) : Bt W v := ⟨Nat.le_trans h.1 (two_le k), Nat.le_trans h.2 (two_le k)⟩
theorem Bt.zero (V : Nat) : Bt V 0 := ⟨Nat.zero_le _, Nat.one_le_two_pow⟩
theorem Bt.one (V : Nat) : Bt V 1 := ⟨Nat.one_le_two_pow, Nat.one_le_two_pow⟩
theorem big_two {z : Nat} (h : z < 4096) : 2 ^ z < BIG := Nat.lt_of_lt_of_le (Nat.pow_lt_pow_right (by decide : 1 < 2) h) pow_big
theorem Bt.mul {V W : Nat} {a b : Rat} (h : Bt V a) (k : Bt W b) (hb : V + W < 4096) : mulO a b = .ok (a * b) /\ Bt (V + W) (a * b) := by
 refine ⟨mulO_sz (T := 2 ^ (V + W)) h.1 h.2 k.1 k.2 (by rw [Nat.pow_add]; exact Nat.le_refl _) (by rw [Nat.pow_add]; exact Nat.le_refl _) (big_two hb), ?_⟩
 have e : a * b = Rat.divInt (a.num * b.num) ((a.den : Int) * b.den) := (rat_mul a b).symm
 have d := divInt_le (a.num * b.num) ((a.den : Int) * b.den) (den2_ne a b)
 rw [<- e, Int.natAbs_mul, Int.natAbs_mul, Int.natAbs_natCast, Int.natAbs_natCast] at d
 exact ⟨Nat.le_trans d.1 (by rw [Nat.pow_add]; exact Nat.mul_le_mul h.1 k.1), Nat.le_trans d.2 (by rw [Nat.pow_add]; exact Nat.mul_le_mul h.2 k.2)⟩
theorem Bt.neg {V : Nat} {a : Rat} (h : Bt V a) (hb : V < 4096) : subO 0 a = .ok (0 - a) /\ Bt V (0 - a) := by
 have z : (0 : Rat).num.natAbs <= 0 := Nat.le_refl _
 have z1 : (0 : Rat).den <= 1 := Nat.le_refl _
 refine ⟨subO_sz (T := 2 ^ V) z z1 h.1 h.2 (by omega) (by omega) (big_two hb), ?_⟩
 have e : 0 - a = -a := by grind
 rw [e]
 exact ⟨by show (-a.num).natAbs <= _; rw [Int.natAbs_neg]; exact h.1, h.2⟩
theorem ppow_succ (a : Rat) (n : Nat) : ppow a (n + 1) = ppow a n * a := by
 unfold ppow
 rw [List.range_succ, List.foldl_append]
 rfl
theorem powO_ok {y : Nat} {a : Rat} (h : Bt y a) : ∀ n : Nat, n * y < 4096 -> powO a n = .ok (ppow a n) /\ Bt (n * y) (ppow a n)
 | 0, _ => ⟨rfl, Bt.one _⟩
 | n + 1, hn => by
   have e : (n + 1) * y = n * y + y := Nat.succ_mul _ _
   obtain ⟨h1, h2⟩ := powO_ok h n (by omega)
   have m := h2.mul h (by omega)
   rw [e]
   refine ⟨?_, by rw [ppow_succ]; exact m.2⟩
   unfold powO at h1 ⊢
   rw [stepsO_succ, thenO_ok h1, ppow_succ]
   exact m.1
theorem Cm.bt {x : Nat} {p : List Rat} (h : Cm (2 ^ x) p) (i : Nat) : Bt x (coef p i) := by
 obtain ⟨D, hD, hA, hp⟩ := h
 have := (hp i).small hD
 exact ⟨this.1, Nat.le_trans this.2 hA⟩
def hb (D c : Nat) : Nat -> Nat
 | 0 => 0
 | d + 1 => (d + 1) * (c * pl (D - d)) + hb D c d
theorem hb_mono (D c : Nat) {a b : Nat} (h : a <= b) : hb D c a <= hb D c b := by
 induction b with
 | zero => rw [Nat.le_zero.1 h]; exact Nat.le_refl _
 | succ b ih =>
   rcases Nat.lt_or_ge a (b + 1) with g | g
   . have := ih (by omega)
     show _ <= (b + 1) * (c * pl (D - b)) + hb D c b
     omega
   . rw [show a = b + 1 by omega]; exact Nat.le_refl _
theorem sgn_ok {V : Nat} {v : Rat} (k : Nat) (h : Bt V v) (hV : V < 4096) : (if k % 2 = 1 then subO 0 v else .ok v) = .ok (if k % 2 = 1 then 0 - v else v) /\ Bt V (if k % 2 = 1 then 0 - v else v) := by
 by_cases e : k % 2 = 1
 . rw [if_pos e, if_pos e, ]
   exact h.neg hV
 . rw [if_neg e, if_neg e]
   exact ⟨rfl, h⟩
section
variable {D c : Nat}
theorem pres_nil {g : Nat} {p q : List Rat} (h : p.length = 0 \/ q.length = 0) : pres (g + 1) p q = 0 := by
 unfold pres
 rw [if_pos h]
theorem pres_one {g : Nat} {p q : List Rat} (h : p.length ≠ 0) (k : q.length = 1) : pres (g + 1) p q = ppow (coef q 0) (p.length - 1) := by
 unfold pres
 rw [if_neg (by omega)]
 show (if q.length - 1 = 0 then _ else _) = _
 rw [if_pos (by omega)]
theorem pres_lt {g : Nat} {p q : List Rat} (h : p.length ≠ 0) (k : 1 < q.length) (hl : p.length < q.length) : pres (g + 1) p q = if (p.length - 1) * (q.length - 1) % 2 = 1 then 0 - pres g q p else pres g q p := by
 conv => lhs; unfold pres
 rw [if_neg (by omega)]
 simp only []
 rw [if_neg (by omega), if_pos (by omega)]
theorem pres_ge0 {g : Nat} {p q : List Rat} (k : 1 < q.length) (hl : q.length <= p.length) (hr : (pdiv p q).2.length = 0) : pres (g + 1) p q = 0 := by
 conv => lhs; unfold pres
 rw [if_neg (by omega)]
 simp only []
 rw [if_neg (by omega), if_neg (by omega), if_pos hr]
theorem pres_ge {g : Nat} {p q : List Rat} (k : 1 < q.length) (hl : q.length <= p.length) (hr : (pdiv p q).2.length ≠ 0) : pres (g + 1) p q = if (p.length - 1) * (q.length - 1) % 2 = 1 then 0 - ppow (coef q (q.length - 1)) (p.length - 1 - ((pdiv p q).2.length - 1)) * pres g q (pdiv p q).2 else ppow (coef q (q.length - 1)) (p.length - 1 - ((pdiv p q).2.length - 1)) * pres g q (pdiv p q).2 := by
 conv => lhs; unfold pres
 rw [if_neg (by omega)]
 simp only []
 rw [if_neg (by omega), if_neg (by omega), if_neg hr]
theorem resO_step {g x y V : Nat} {p q : List Rat} (hq : ptrim q = q) (k : 1 < q.length) (hl : q.length <= p.length) (cp : Cm (2 ^ x) p) (cq : Cm (2 ^ y) q) (hz : 2 * (x + (p.length - (q.length - 1)) * (y + 1)) < 4096) (hv : (p.length - 1) * y + V < 4096)
 (ih : ∀ r : List Rat, ptrim r = r -> r.length < q.length -> r.length ≠ 0 -> Cm (2 ^ (x + (p.length - (q.length - 1)) * (y + 1))) r -> resO g q r = .ok (pres g q r) /\ Bt V (pres g q r)) :
 resO (g + 1) p q = .ok (pres (g + 1) p q) /\ Bt ((p.length - 1) * y + V) (pres (g + 1) p q) := by
 have tq := top_ne hq (by omega)
 have dv := pdivO_cm cp cq tq (by rw [two_rows]; exact two_big hz)
 rw [two_rows] at dv
 have rl := pdiv_rest_len (p := p) tq
 rw [resO_div k hl, thenO_ok dv.1]
 by_cases r0 : (pdiv p q).2.length = 0
 . rw [if_pos r0, pres_ge0 k hl r0]
   exact ⟨rfl, Bt.zero _⟩
 . have i := ih _ rl.2 (by omega) r0 dv.2.2
   have m0 : (p.length - 1 - ((pdiv p q).2.length - 1)) * y <= (p.length - 1) * y := Nat.mul_le_mul_right _ (by omega)
   have po := powO_ok (cq.bt (q.length - 1)) (p.length - 1 - ((pdiv p q).2.length - 1)) (by omega)
   have mu := po.2.mul i.2 (by omega)
   have sg := sgn_ok ((p.length - 1) * (q.length - 1)) (mu.2.mono (show _ <= (p.length - 1) * y + V by omega)) hv
   rw [if_neg r0, thenO_ok po.1, thenO_ok i.1, thenO_ok mu.1, pres_ge k hl r0]
   exact sg
theorem resO_run (hB : 2 * (c * pl D) < 4096) (hV : hb D c D < 4096) : ∀ (g : Nat) (p q : List Rat) (k x y : Nat), ptrim p = p -> ptrim q = q -> q.length < p.length -> p.length + k = D + 1 -> Cm (2 ^ x) p -> Cm (2 ^ y) q -> x + 1 <= c * pl k -> y + 1 <= c * pl (k + 1) -> q.length < g →
 resO g p q = .ok (pres g p q) /\ Bt (hb D c (p.length - 1)) (pres g p q) := by
 intro g
 induction g with
 | zero => intro p q k x y _ _ _ _ _ _ _ _ hg; omega
 | succ g ih =>
   intro p q k x y hp hq hl hk cp cq hx hy hg
   by_cases h0 : q.length = 0
   . rw [resO_nil (Or.inr h0), pres_nil (Or.inr h0)]
     exact ⟨rfl, Bt.zero _⟩
   . obtain ⟨d, hd⟩ : ∃ d, p.length = d + 2 := ⟨p.length - 2, by omega⟩
     have eh : hb D c (p.length - 1) = (d + 1) * (c * pl (k + 1)) + hb D c d := by
      rw [show p.length - 1 = d + 1 by omega]
      show (d + 1) * (c * pl (D - d)) + hb D c d = _
      rw [show D - d = k + 1 by omega]
     have hm : hb D c (p.length - 1) <= hb D c D := hb_mono D c (by omega)
     have hy2 : (p.length - 1) * y <= (d + 1) * (c * pl (k + 1)) := by
      rw [show p.length - 1 = d + 1 by omega]
      exact Nat.mul_le_mul_left _ (by omega)
     by_cases h1 : q.length = 1
     . have po := powO_ok (cq.bt 0) (p.length - 1) (by omega)
       rw [resO_one (by omega) h1, pres_one (by omega) h1]
       exact ⟨po.1, po.2.mono (by omega)⟩
     . obtain ⟨j, hj⟩ : ∃ j, p.length = q.length + 1 + j := ⟨p.length - q.length - 1, by omega⟩
       have hrow : p.length - (q.length - 1) = j + 2 := by omega
       have hsk := Nat.mul_le_mul_left c (pl_skip k j)
       rw [Nat.mul_add] at hsk
       have hyr : (j + 2) * (y + 1) <= c * ((j + 2) * pl (k + 1)) := by
        rw [show c * ((j + 2) * pl (k + 1)) = (j + 2) * (c * pl (k + 1)) by grind]
        exact Nat.mul_le_mul_left _ hy
       have top : c * pl (k + j + 2) <= c * pl D := Nat.mul_le_mul_left _ (pl_mono (by omega))
       have zb : x + (j + 2) * (y + 1) + 1 <= c * pl (k + j + 2) := by omega
       have hyk : c * pl (k + 1) <= c * pl (k + j + 1) := Nat.mul_le_mul_left _ (pl_mono (by omega))
       have hqd : hb D c (q.length - 1) <= hb D c d := hb_mono D c (by omega)
       have st := resO_step (g := g) (V := hb D c (q.length - 1)) hq (by omega) (Nat.le_of_lt hl) cp cq (by rw [hrow]; omega) (by omega) fun r hr lr _ cr => by
        rw [hrow] at cr
        exact ih q r (k + j + 1) y _ hq hr lr (by omega) cq cr (by omega) zb (by omega)
       exact ⟨st.1, st.2.mono (by omega)⟩
theorem resO_ok {P x y g : Nat} (hx : x + 1 <= c) (hy : y + 1 <= c) (h2 : x + 1 + (P - D + 1) * (y + 1) <= 2 * c) (hDP : D <= P) (hB : 2 * (c * pl D) < 4096) (hV : P * y + hb D c D < 4096) {p q : List Rat} (hp : ptrim p = p) (hq : ptrim q = q) (lp : p.length <= P + 1) (lq : q.length <= D + 1) (cp : Cm (2 ^ x) p) (cq : Cm (2 ^ y) q) (hg : resN p q <= g) :
 resO g p q = .ok (pres g p q) /\ Bt (P * y + hb D c D) (pres g p q) := by
 have g1 : 1 <= g := by unfold resN at hg; split at hg <;> omega
 obtain ⟨g, rfl⟩ : ∃ g', g = g' + 1 := ⟨g - 1, by omega⟩
 by_cases h0 : p.length = 0 \/ q.length = 0
 . rw [resO_nil h0, pres_nil h0]
   exact ⟨rfl, Bt.zero _⟩
 . have hpy : (p.length - 1) * y <= P * y := Nat.mul_le_mul_right _ (by omega)
   have kk : ∀ k, c <= c * pl k := fun k => Nat.le_mul_of_pos_right _ (pl_pos k)
   by_cases h1 : q.length = 1
   . have po := powO_ok (cq.bt 0) (p.length - 1) (by omega)
     rw [resO_one (by omega) h1, pres_one (by omega) h1]
     exact ⟨po.1, po.2.mono (by omega)⟩
   . by_cases hl : p.length < q.length
     . unfold resN at hg
       rw [if_pos hl] at hg
       obtain ⟨k, hk⟩ : ∃ k, q.length + k = D + 1 := ⟨D + 1 - q.length, by omega⟩
       have := kk k
       have := kk (k + 1)
       have r := resO_run hB (by omega) g q p k y x hq hp hl hk cq cp (by omega) (by omega) (by omega)
       have m : hb D c (q.length - 1) <= hb D c D := hb_mono D c (by omega)
       have sg := sgn_ok ((p.length - 1) * (q.length - 1)) (r.2.mono (show _ <= P * y + hb D c D by omega)) hV
       rw [resO_swap (by omega) (by omega) hl, thenO_ok r.1, pres_lt (by omega) (by omega) hl]
       exact sg
     . unfold resN at hg
       rw [if_neg hl] at hg
       obtain ⟨k, hk⟩ : ∃ k, q.length + k = D + 1 := ⟨D + 1 - q.length, by omega⟩
       have k0 := kk k
       obtain ⟨n, hn⟩ : ∃ n, p.length - (q.length - 1) = n := ⟨_, rfl⟩
       have hnk : n <= (P - D + 1) + k := by omega
       have m1 : n * (y + 1) <= ((P - D + 1) + k) * (y + 1) := Nat.mul_le_mul_right _ hnk
       rw [Nat.add_mul] at m1
       have m2 : k * (y + 1) <= k * c := Nat.mul_le_mul_left _ hy
       have m3 : c * (k + 2) <= c * pl (k + 1) := Nat.mul_le_mul_left _ (pl_lin k)
       have m4 : c * (k + 2) = k * c + 2 * c := by rw [Nat.mul_add, Nat.mul_comm c k]; omega
       have top : c * pl (k + 1) <= c * pl D := Nat.mul_le_mul_left _ (pl_mono (by omega))
       have hqd : hb D c (q.length - 1) <= hb D c D := hb_mono D c (by omega)
       have st := resO_step (g := g) (V := hb D c (q.length - 1)) hq (by omega) (by omega) cp cq (by rw [hn]; omega) (by omega) fun r hr lr _ cr => by
        rw [hn] at cr
        exact resO_run hB (by omega) g q r k y _ hq hr lr hk cq cr (by omega) (by omega) (by omega)
       exact ⟨st.1, st.2.mono (by omega)⟩
end
end Go.Proofs.YtmncfbfepdbioaaGreatDoor
namespace Go.Proofs.YtmncfbfepdbioaaGreatDoor
section
variable {A B n : Nat} {D E : Int}
end
theorem pgcd_len : ∀ (n : Nat) (p q : List Rat), ptrim q = q -> (pgcd n p q).length <= max p.length q.length
 | 0, p, q, _ => by rw [pgcd, pmonic_len]; omega
 | n + 1, p, q, hq => by
   rw [pgcd]
   split
   . rw [pmonic_len]; omega
   . rename_i k
     have s := pdiv_rest_len (p := p) (top_ne hq k)
     have := pgcd_len n q (pmonic (pdiv p q).2) (pmonic_trim s.2)
     rw [pmonic_len] at this
     omega
theorem pmul_small {p q : List Rat} {n m : Nat} (hp : p.length <= n + 1) (hq : q.length <= m + 1) : (pmul p q).length <= n + m + 1 := by
 by_cases h0 : p.length = 0 \/ q.length = 0
 . unfold pmul; rw [if_pos h0]; exact Nat.zero_le _
 . rw [pmul_len (by omega) (by omega)]; omega
end Go.Proofs.YtmncfbfepdbioaaGreatDoor
