/-
  The walk of Shift to the left; Shift for any integer and any count.
-/
import Derived.Deep.RegionHeld3
import Derived.Test.YtalgcppogjpilaaShl
import Derived.Test.YtalgcppogjpilaaShiftR
import Derived.Test.YtalgcppogjpilaaChain
namespace Go.Proofs.Ytalgcppogjpilaa
open Go.RowKit

/-- The head of Shift to the left, as far as the count of digits. -/
theorem shl_pos {xs : List Nat} {n : Nat} (h0 : xs ≠ []) (hl : xs.length = n) : 0 < n := by
  rcases Nat.eq_zero_or_pos n with e | e
  · rw [e] at hl; exact absurd (List.eq_nil_of_length_eq_zero hl) h0
  · exact e

set_option maxHeartbeats 1000000 in
theorem shl_big (neg : Bool) (A : Option Addr) (n c : Nat) (xs : List Nat) (s : Int) (w : World) (h : Sl w w.heap.size A n c xs) (hv : vld neg xs = true) (h0 : xs ≠ []) (hs0 : 0 ≤ s) (hb9 : 4096 - (nbits (val xs) : Int) < s) (hb8 : nbits (val xs) ≤ 4096) :
    Calls Try.prog 39 #[.agg #[.bool neg, .slice A n c], .int .i64 s] w (RetIE 0 2 w) := by
  have Hg := Lib.hid (vld_true hv)
  have hn0 := shl_pos h0 h.len
  have hn9 : n ≤ 1000000 := by have := h.len; have := Hg.out.1; omega
  clear h0
  have i4 : ((n : Int) == 0) = false := by rw [beq_eq_false_iff_ne]; omega
  generalize hN : nbits (val xs) = N at *
  have HN := Lib.hid hN
  clear hN
  go_enter Try.func39, Try.ntmps39
  go_wp2_with fail
  generalize hW : World.alloc (World.alloc w _) _ = W
  obtain ⟨hb, hz, b0, b1⟩ := one_boxes neg A n c w W hW
  have hs := h.on hb
  clear hW
  refine (valid_any _ _ _ _ _ xs _ hs (Nat.le_refl _)).mono ?_
  rintro e w1 ⟨rfl, hb1⟩
  have hz1 : w.heap.size + 1 < w1.heap.size := by have := hb1.size; omega
  have b0 := b0.below hb1 (by omega)
  have b1 := b1.below hb1 (by omega)
  have hs := hs.on hb1
  have hb := below_chain hb (by omega) hb1
  clear hb1
  have k0 := b0.c0
  have k1 := b0.c1
  go_wp2_with fail
  refine (bitsMag_any _ _ _ _ _ _ hs Hg.out.2.1 hn9).mono ?_
  rintro e w2 ⟨rfl, rfl⟩
  rw [HN.out]
  have k3 := b1.c0
  have k4 := b1.c1
  have k5 := b1.f 0
  have k6 := b1.f 1
  generalize hr : w.heap.size = r at *
  have HRW := Lib.hid (And.intro hb hr)
  clear hb hr
  go_wp2
  exact bodyPost_ret (v := .tuple #[.agg #[.bool false, .slice none 0 0], .int .i64 2]) (by simp [results, Try.results39, go_sem, k3, k4]) rfl
    ⟨none, 0, 0, [], rfl, Sl.nil _ _, Nz.nil, rfl, by rw [HRW.out.2]; exact below_ret HRW.out.1 (show r ≤ r + 1 by omega) _ _⟩

set_option maxHeartbeats 2000000 in
theorem shl_fit (neg : Bool) (A : Option Addr) (n c : Nat) (xs : List Nat) (s : Nat) (w : World) (h : Sl w w.heap.size A n c xs) (hv : vld neg xs = true) (h0 : xs ≠ []) (hb9 : (s : Int) ≤ 4096 - (nbits (val xs) : Int)) (v : Nat) (hvs : val xs * 2 ^ s = v) :
    Calls Try.prog 39 #[.agg #[.bool neg, .slice A n c], .int .i64 (s : Int)] w (RetIE (sg neg v) 0 w) := by
  have Hg := Lib.hid (vld_true hv)
  have hn0 := shl_pos h0 h.len
  have hn9 : n ≤ 1000000 := by have := h.len; have := Hg.out.1; omega
  clear h0
  have i4 : ((n : Int) == 0) = false := by rw [beq_eq_false_iff_ne]; omega
  have Hvs := Lib.hid hvs
  clear hvs
  generalize hN : nbits (val xs) = N at *
  have HN := Lib.hid hN
  clear hN
  have hl : (s : Int) / 32 = ((s / 32 : Nat) : Int) := by omega
  have ht : (s : Int) % 32 = ((s % 32 : Nat) : Int) := by omega
  have Hlt := Lib.hid (And.intro hl ht)
  clear hl ht
  have hs9 : s ≤ 1000000 := by omega
  go_enter Try.func39, Try.ntmps39
  go_wp2_with fail
  generalize hW : World.alloc (World.alloc w _) _ = W
  obtain ⟨hb, hz, b0, b1⟩ := one_boxes neg A n c w W hW
  have hs := h.on hb
  clear hW
  refine (valid_any _ _ _ _ _ xs _ hs (Nat.le_refl _)).mono ?_
  rintro e w1 ⟨rfl, hb1⟩
  have hz1 : w.heap.size + 1 < w1.heap.size := by have := hb1.size; omega
  have b0 := b0.below hb1 (by omega)
  have b1 := b1.below hb1 (by omega)
  have hs := hs.on hb1
  have hb := below_chain hb (by omega) hb1
  clear hb1
  have k0 := b0.c0
  have k1 := b0.c1
  go_wp2_with fail
  refine (bitsMag_any _ _ _ _ _ _ hs Hg.out.2.1 hn9).mono ?_
  rintro e w2 ⟨rfl, rfl⟩
  rw [HN.out]
  have k3 := b1.c0
  have k4 := b1.c1
  have k5 := b1.f 0
  have k6 := b1.f 1
  generalize hr : w.heap.size = r at *
  have HRW := Lib.hid (And.intro hb hr)
  clear hb hr
  have ne1 : r ≠ r + 1 := by omega
  have ne2 : r + 1 ≠ r := by omega
  go_wp2_with fail
  go_region_held3 (fun w' => w'.cell? ⟨r, 0, none⟩ = some (.bool neg) ∧ w'.cell? ⟨r, 1, none⟩ = some (.slice A n c))
    (go_keep)
    (first
      | (go_at_call 66
         have L := signed_any neg A3 n3 c3 xs3 w3 hs3 hx3
         rw [H3.out] at L
         refine L.mono ?_
         clear L
         rintro e w4 ⟨A4, n4, c4, xs4, rfl, hs4, hx4, hv4, hb4⟩
         have e0 := d0.below hb4 (by omega)
         have e1 := d1.below hb4 (by omega)
         have j0' := e0.c0
         have j1' := e0.c1
         have j3' := e1.c0
         have j4' := e1.c1
         have j5' := e1.f 0
         have j6' := e1.f 1
         have H4 := Lib.hid (And.intro hv4 hx4)
         clear hv4 hx4)
      | (go_at_call 77
         refine (shiftLeft_any A n c s (s / 32) (s % 32) xs _ hs.drew hn9 hs9 Hlt.out.1 Hlt.out.2).mono ?_
         rintro e w3 ⟨A3, n3, c3, xs3, rfl, hs3, hx3, hv3, hbd⟩
         have hb3 := below_undrew hbd
         rw [Hvs.out] at hv3
         have H3 := Lib.hid hv3
         clear hbd hv3
         have d0 := b0.below hb3 (by omega)
         have d1 := b1.below hb3 (by omega)
         have hz3 := d1.lt
         have j0 := d0.c0
         have j1 := d0.c1))
  go_wp2
  exact bodyPost_ret (v := .tuple #[.agg #[.bool (decide (sg neg v < 0)), .slice A4 n4 c4], .int .i64 0])
    (by simp [results, Try.results39, go_sem, j3', j4']) rfl
    ⟨A4, n4, c4, xs4, rfl, hs4.ret e1 _ _, H4.out.2, H4.out.1, by rw [HRW.out.2]; exact below_ret (below_chain (below_chain HRW.out.1 (by omega) hb3) (by omega) hb4) (show r ≤ r + 1 by omega) _ _⟩

/-- A shift by s, rounded down. -/
def shf (z s : Int) : Int := if 0 ≤ s then z * ((pw s.toNat : Nat) : Int) else z / ((pw (-s).toNat : Nat) : Int)
theorem pw_limbs (m : Nat) : (4294967296 : Nat) ^ m = pw (32 * m) := by unfold pw; rw [Nat.pow_mul]
theorem big_pw : BIG = pw 4096 := (pw_limbs 128).trans (congrArg pw (by decide : 32 * 128 = 4096))
theorem pw_pos (k : Nat) : 0 < pw k := Nat.pow_pos (by decide)
theorem pw_add (a b : Nat) : pw (a + b) = pw a * pw b := Nat.pow_add 2 a b
theorem pw_le {a b : Nat} (h : a ≤ b) : pw a ≤ pw b := Nat.pow_le_pow_right (by decide) h
theorem nbits_pw (N k : Nat) : nbits N ≤ k ↔ N < pw k := nbits_le_iff N k
theorem nbits_pw_ge {N : Nat} (h : N ≠ 0) : pw (nbits N - 1) ≤ N := nbits_ge h

theorem sg_mul_nat (neg : Bool) (v p : Nat) : sg neg (v * p) = sg neg v * (p : Int) := by
  cases neg <;> simp [sg, Int.neg_mul]
/-- A shift by more than all digits. -/
theorem shf_far {v p q : Nat} (hp : v ≤ p) (hq : v ≤ q) (hv : 0 < v) (neg : Bool) : sg neg v / ((p + 1 : Nat) : Int) = sg neg v / ((q + 1 : Nat) : Int) := by
  cases neg
  · rw [sg_false, ← Int.natCast_ediv, ← Int.natCast_ediv, Nat.div_eq_of_lt (by omega), Nat.div_eq_of_lt (by omega)]
  · rw [sg_true]
    have key : ∀ r : Nat, v ≤ r → -(v : Int) / ((r + 1 : Nat) : Int) = -1 := fun r hr => by
      rw [Int.ediv_eq_iff_of_pos (by omega)]
      omega
    rw [key p hp, key q hq]
theorem shf_away {v p q : Nat} (hp : v < p) (hq : v < q) (hv : 0 < v) (neg : Bool) : sg neg v / (p : Int) = sg neg v / (q : Int) := by
  obtain ⟨p', rfl⟩ : ∃ p', p = p' + 1 := ⟨p - 1, by omega⟩
  obtain ⟨q', rfl⟩ : ∃ q', q = q' + 1 := ⟨q - 1, by omega⟩
  exact shf_far (by omega) (by omega) hv neg
theorem neg_floor {v p : Nat} (hv : 0 < v) (hp : 0 < p) : -(v : Int) / (p : Int) = -(((v - 1) / p + 1 : Nat) : Int) := by
  have d := Nat.div_add_mod (v - 1) p
  have m := Nat.mod_lt (v - 1) hp
  rw [Int.ediv_eq_iff_of_pos (by omega)]
  generalize (v - 1) / p = q at *
  generalize (v - 1) % p = r at *
  have e : (p : Int) * (q : Int) = ((p * q : Nat) : Int) := by rw [Int.natCast_mul]
  constructor
  · rw [Int.natCast_add, Int.neg_mul, Int.add_mul, Int.mul_comm (q : Int), e]
    generalize p * q = pq at *
    simp only [Int.natCast_one, Int.one_mul]
    omega
  · rw [Int.natCast_add, Int.neg_mul, Int.add_mul, Int.mul_comm (q : Int), e]
    generalize p * q = pq at *
    simp only [Int.natCast_one, Int.one_mul]
    omega

theorem div_nat_lt {z : Int} {p : Nat} (hz : z.natAbs < BIG) (hp : 0 < p) : (z / (p : Int)).natAbs < BIG := by
  rcases Int.lt_or_le z 0 with h | h
  · obtain ⟨v, rfl⟩ : ∃ v : Nat, z = -(v : Int) := ⟨z.natAbs, by omega⟩
    rw [neg_floor (by omega) hp]
    have : (v - 1) / p ≤ v - 1 := Nat.div_le_self _ _
    rw [Int.natAbs_neg, Int.natAbs_natCast] at hz ⊢
    generalize (v - 1) / p = q at *
    generalize BIG = b at *
    omega
  · obtain ⟨v, rfl⟩ : ∃ v : Nat, z = (v : Int) := ⟨z.natAbs, by omega⟩
    rw [← Int.natCast_ediv]
    have : v / p ≤ v := Nat.div_le_self _ _
    rw [Int.natAbs_natCast] at hz ⊢
    exact Nat.lt_of_le_of_lt this hz

theorem shift_good (neg : Bool) (A : Option Addr) (n c : Nat) (xs : List Nat) (s : Int) (w : World) (h : Sl w w.heap.size A n c xs) (hv : vld neg xs = true) (h1 : -9223372036854775808 ≤ s) (_ : s ≤ 9223372036854775807) :
    Calls Try.prog 39 #[.agg #[.bool neg, .slice A n c], .int .i64 s] w (RetIE (fitZ (shf (sg neg (val xs)) s)) (fitE (shf (sg neg (val xs)) s)) w) := by
  have v1 := vld_true hv
  by_cases h0 : xs = []
  · have e : shf (sg neg (val xs)) s = 0 := by
      rw [h0, v1.2.2 h0, sg_false, val_nil]
      unfold shf
      split <;> simp
    have f := fit_yes (z := 0) big_gt
    rw [e, f.1, f.2]
    exact shift_nil neg A n c xs s w h hv h0
  · have hpos : 0 < val xs := val_pos v1.2.1 h0
    have hlt : val xs < BIG := (big_iff h.ok v1.2.1).2 v1.1
    have hnb : nbits (val xs) ≤ 4096 := (nbits_pw _ _).2 (by rw [← big_pw]; exact hlt)
    by_cases hs : 0 ≤ s
    · have e : shf (sg neg (val xs)) s = sg neg (val xs * pw s.toNat) := by
        unfold shf; rw [if_pos hs, sg_mul_nat]
      by_cases hb : (s : Int) ≤ 4096 - (nbits (val xs) : Int)
      · have hlt2 : val xs * pw s.toNat < BIG := by
          rw [big_pw, show 4096 = (4096 - s.toNat) + s.toNat by omega, pw_add]
          exact Nat.mul_lt_mul_of_pos_right ((nbits_pw _ _).1 (by omega)) (pw_pos _)
        have f := fit_yes (z := sg neg (val xs * pw s.toNat)) (by rw [sg_abs]; exact hlt2)
        rw [e, f.1, f.2]
        have := shl_fit neg A n c xs s.toNat w h hv h0 (by omega) _ rfl
        rwa [show ((s.toNat : Nat) : Int) = s by omega] at this
      · have hge : ¬ (sg neg (val xs * pw s.toNat)).natAbs < BIG := by
          rw [sg_abs, big_pw]
          have a := nbits_pw_ge (N := val xs) (by omega)
          have p := nbits_pos (N := val xs) (by omega)
          have b : pw 4096 ≤ pw (nbits (val xs) - 1) * pw s.toNat := by
            rw [← pw_add]; exact pw_le (by omega)
          exact Nat.not_lt.2 (Nat.le_trans b (Nat.mul_le_mul_right _ a))
        have f := fit_no hge
        rw [e, f.1, f.2]
        exact shl_big neg A n c xs s w h hv h0 hs (by omega) hnb
    · have hz : (sg neg (val xs)).natAbs < BIG := by rw [sg_abs]; exact hlt
      have hfit : ∀ p : Nat, 0 < p → fitZ (sg neg (val xs) / (p : Int)) = sg neg (val xs) / (p : Int) ∧ fitE (sg neg (val xs) / (p : Int)) = 0 := fun p hp => fit_yes (div_nat_lt hz hp)
      have e : shf (sg neg (val xs)) s = sg neg (val xs) / ((pw (-s).toNat : Nat) : Int) := by unfold shf; rw [if_neg hs]
      have hp : ∀ k : Nat, 0 < pw k := pw_pos
      by_cases hf : s < -4096
      · have e2 : sg neg (val xs) / ((pw (-s).toNat : Nat) : Int) = sg neg (val xs) / ((pw 4096 : Nat) : Int) := by
          refine shf_away ?_ ?_ hpos neg
          · exact Nat.lt_of_lt_of_le hlt (show BIG ≤ pw (-s).toNat by rw [big_pw]; exact pw_le (by omega))
          · rw [← big_pw]; exact hlt
        have f := hfit (pw 4096) (hp _)
        rw [e, e2, f.1, f.2]
        cases neg
        · have := shr_pos1 A n c xs s w h hv h0 hf h1
          rwa [sg_false, Int.natCast_ediv] at this
        · have := shr_neg1 A n c xs s w h hv h0 hf h1
          rwa [sg_true, ← neg_floor hpos (hp _)] at this
      · obtain ⟨d, hd⟩ : ∃ d : Nat, s = -(d : Int) := ⟨(-s).toNat, by omega⟩
        subst hd
        have hd2 : (-(-(d : Int))).toNat = d := by omega
        rw [hd2] at e
        have f := hfit (pw d) (hp _)
        rw [e, f.1, f.2]
        cases neg
        · have := shr_pos2 A n c xs w h hv h0 d (by omega) (by omega)
          rwa [sg_false, Int.natCast_ediv] at this
        · have := shr_neg2 A n c xs w h hv h0 d (by omega) (by omega)
          rwa [sg_true, ← neg_floor hpos (hp _)] at this

/-- Shift, for any integer. -/
def oZ (f : Int → Int) : Option Int → Int
  | some a => fitZ (f a)
  | none => 0
def oE (f : Int → Int) : Option Int → Int
  | some a => fitE (f a)
  | none => 1
theorem shift_ov {neg : Bool} {A : Option Addr} {n c : Nat} {xs : List Nat} {w : World} (h : Sl w w.heap.size A n c xs) (s : Int) (h1 : -9223372036854775808 ≤ s) (h2 : s ≤ 9223372036854775807) :
    Calls Try.prog 39 #[.agg #[.bool neg, .slice A n c], .int .i64 s] w (RetIE (oZ (shf · s) (ov neg xs)) (oE (shf · s) (ov neg xs)) w) := by
  rcases hv : vld neg xs with _ | _
  · rw [ov_none hv]
    exact shift_bad neg A n c xs s w h hv
  · rw [ov_some hv]
    exact shift_good neg A n c xs s w h hv h1 h2

end Go.Proofs.Ytalgcppogjpilaa
