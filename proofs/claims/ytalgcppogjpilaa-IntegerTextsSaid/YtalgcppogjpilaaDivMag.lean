/-
  The walk of divMag, where the divisor has one limb or is greater.
-/
import Derived.Test.YtalgcppogjpilaaDiv
namespace Go.Proofs.Ytalgcppogjpilaa
open Go.RowKit

/-- Two magnitudes are handed back. -/
def RetNum2 (N M : Nat) (w : World) (e : Ending) (w' : World) : Prop := ∃ A n c xs A' n' c' ys, e = .returned (.tuple #[.slice A n c, .slice A' n' c']) ∧ Sl w' w'.heap.size A n c xs ∧ Nz xs ∧ val xs = N ∧
  Sl w' w'.heap.size A' n' c' ys ∧ Nz ys ∧ val ys = M ∧ Below w.heap.size w w'
/-- divMag divides these two. -/
def DivSpec (xs ys : List Nat) : Prop := ∀ (A A' : Option Addr) (n c n' c' : Nat) (w : World), Sl w w.heap.size A n c xs → Sl w w.heap.size A' n' c' ys →
  Calls Try.prog 63 #[.slice A n c, .slice A' n' c'] w (RetNum2 (val xs / val ys) (val xs % val ys) w)

set_option maxHeartbeats 1000000 in
theorem divMag_less (xs ys : List Nat) (hx : Nz xs) (hy : Nz ys) (hlt : val xs < val ys) : DivSpec xs ys := by
  intro A A' n c n' c' w h h'
  rw [Nat.div_eq_of_lt hlt, Nat.mod_eq_of_lt hlt]
  have Hc := Lib.hid (show cmpv (val xs) (val ys) = -1 from cmpv_lt hlt)
  clear hlt
  have Hl := Lib.hid h.len
  have hreach := h.reach
  go_enter Try.func63, Try.ntmps63
  go_wp2_with fail
  refine (cmpMag_any _ _ _ _ _ _ _ _ xs ys _ h h' hx hy).mono ?_
  rintro e w0 ⟨rfl, q, rfl⟩
  rw [Hc.out]
  go_wp2_with fail
  have hs : Sl (w.drewN q) (w.drewN q).heap.size A n c xs := h.drewN q
  refine (clone_any _ _ _ _ xs _ hs (Nat.le_refl _)).mono ?_
  rintro e w1 ⟨rfl, hrow, hb1⟩
  have hb2 := below_undrewN hb1
  have hz : w.heap.size < w1.heap.size := hrow.lt
  have hsl := hrow.sl (B := w1.heap.size) (n := n) (c := n) hz 0 (by rw [Hl.out]; omega) (Nat.le_refl _) (by omega) h.ok
  rw [List.drop_zero, List.take_of_length_le (by rw [Hl.out]; omega)] at hsl
  have Hsl := Lib.hid hsl
  clear hsl hb1 hrow
  go_wp2
  go_ret2
  exact ⟨none, 0, 0, [], _, n, n, xs, rfl, Sl.nil _ _, Nz.nil, rfl, Hsl.out, hx, rfl, hb2⟩

set_option maxHeartbeats 1000000 in
theorem divMag_one (xs ys : List Nat) (hx : Nz xs) (hy : Nz ys) (hle : val ys ≤ val xs) (h1 : ys.length = 1) : DivSpec xs ys := by
  intro A A' n c n' c' w h h'
  obtain ⟨d, rfl⟩ : ∃ d, ys = [d] := by
    rcases ys with _ | ⟨d, _ | ⟨e, ys⟩⟩
    · cases h1
    · exact ⟨d, rfl⟩
    · simp at h1
  have hd : d < 4294967296 := h'.ok.head
  have hd0 : 0 < d := by
    rcases Nat.eq_zero_or_pos d with rfl | h
    · exact absurd rfl hy
    · exact h
  obtain rfl : 1 = n' := by have := h'.len; simpa using this
  have hval : val [d] = d := by simp [val]
  have Hval := Lib.hid hval
  clear h1
  have Hc := Lib.hid (show 0 ≤ cmpv (val xs) (val [d]) by
    rcases Nat.lt_or_ge (val [d]) (val xs) with h1 | h1
    · rw [cmpv_gt h1]; omega
    · have e : val xs = val [d] := by omega
      rw [e, cmpv_eq]; omega)
  clear hle hval
  have Hl := Lib.hid h.len
  have hreach := h.reach
  go_enter Try.func63, Try.ntmps63
  go_wp2_with fail
  refine (cmpMag_any _ _ _ _ _ _ _ _ xs [d] _ h h' hx hy).mono ?_
  rintro e w0 ⟨rfl, q, rfl⟩
  have hc := Hc.out
  generalize cmpv (val xs) (val [d]) = cv at *
  have hs : Sl (w.drewN q) (w.drewN q).heap.size A n c xs := h.drewN q
  go_wp2_with fail
  refine (clone_any _ _ _ _ xs _ hs (Nat.le_refl _)).mono ?_
  rintro e w1 ⟨rfl, hrow, hb1⟩
  have hb2 := below_undrewN hb1
  have hz : w.heap.size < w1.heap.size := hrow.lt
  have hrow1 : Row w1 w.heap.size xs := hrow
  obtain ⟨ad, rfl, hadb, hc1⟩ := (h'.below hb2).cell (k := 0) (by omega)
  have hc2 : w1.cell? ad = some (.int .u32 (d : Int)) := by
    have e : ad.add 0 = ad := by simp [Addr.add]
    rw [e] at hc1
    exact hc1
  clear hc1 hb1 hrow
  go_wp2_with fail
  refine (divLimb_any w.heap.size 0 n n d xs w1 hrow1 (by rw [Hl.out]; omega) h.ok (by omega) hd0 hd).mono ?_
  rintro e w2 ⟨zs, r, rfl, hr, hr2, hok, hsame, hv, hg⟩
  have hz2 : w.heap.size < w2.heap.size := hr2.lt
  have hlz : zs.length = n := by rw [hsame.1, Hl.out]
  have hsl := hr2.sl (B := w2.heap.size) (n := n) (c := n) hz2 0 (by omega) (Nat.le_refl _) (by omega) hok
  rw [List.drop_zero, List.take_of_length_le (by omega)] at hsl
  have Hv := Lib.hid (show val xs = d * val zs + r by rw [wv_all xs (by rw [Hl.out]; omega), wv_all zs (by omega)] at hv; exact hv)
  have Hg := Lib.hid (below_grown hb2 hg (Nat.le_refl _) (by omega))
  clear hv hlz hsame hr2 hg hrow1
  go_wp2_with fail
  refine (trim_any _ _ _ _ zs w2 hsl).mono ?_
  rintro e w3 ⟨⟨k, hk, rfl, hnz, hv⟩, rfl⟩
  have HV := Lib.hid hv
  clear hv
  go_wp2_with fail
  refine (ofWord_any (r : Int) _ (by omega) (by omega)).mono ?_
  rintro e w4 ⟨A4, n4, c4, xs4, rfl, hs4, hx4, hv4, hb4⟩
  have Hv4 := Lib.hid hv4
  clear hv4
  have hq : val xs / d = val zs := by
    rw [Hv.out, Nat.add_comm, Nat.add_mul_div_left _ _ hd0, Nat.div_eq_of_lt hr, Nat.zero_add]
  have hm : val xs % d = r := by
    rw [Hv.out, Nat.add_comm, Nat.add_mul_mod_self_left, Nat.mod_eq_of_lt hr]
  have Hqm := Lib.hid (And.intro hq hm)
  clear hq hm
  go_wp2
  go_ret2
  exact ⟨_, k, n, _, A4, n4, c4, xs4, rfl, (hsl.to hk).on hb4, hnz, by rw [HV.out, Hval.out, Hqm.out.1], hs4, hx4, by rw [Hv4.out, Hval.out, Hqm.out.2]; omega, below_chain Hg.out (by omega) hb4⟩

end Go.Proofs.Ytalgcppogjpilaa
