/-
  The walks of the reference's fit and negative.
-/
import Derived.Test.YtalgcppogjpilaaSmall
import Derived.Test.YtalgcppogjpilaaRefSub
namespace Go.Proofs.Ytalgcppogjpilaa
open Go.RowKit

set_option maxHeartbeats 1000000 in
theorem fit_f (A : Option Addr) (n c : Nat) (xs : List Nat) (w : World) (h : Sl w w.heap.size A n c xs) (hx : Nz xs) (h1 : n ≤ 128) :
    Calls Try.prog 55 #[.bool false, .slice A n c] w (RetIE (sg false (val xs)) 0 w) := by
  have Hb := Lib.hid (below_new w (.cells #[.bool false, .slice none 0 0] 24))
  have Ha := Lib.hid (sg_abs false (val xs))
  have Hd := Lib.hid (show false = decide (sg false (val xs) < 0) by rw [sg_false]; simp)
  have h2 : (n : Int) ≤ 128 := by omega
  go_enter Try.func55, Try.ntmps55
  go_wp2_with fail
  have hs := h.on Hb.out
  have bx := Bx.new w false none 0 0
  generalize hW : World.alloc w _ = V at *
  clear hW
  refine (rtrim_any _ _ _ _ xs _ hs).mono ?_
  rintro e w3 ⟨⟨k, hk, rfl, hnz, hv⟩, rfl⟩
  have e0 : List.take k xs = xs := uniq (hs.ok.take k) hs.ok hnz hx hv
  have hkn : k = n := by
    have a := congrArg List.length e0
    rw [List.length_take, hs.len] at a
    omega
  subst hkn
  clear e0 hv hnz hk
  have Hbx := Lib.hid bx
  have be := below_new V (.cells #[] 51)
  have He := Lib.hid (Blk.new V 51 #[])
  have Hs := Lib.hid (hs.on be)
  have Hx := Lib.hid (bx.alloc (.cells #[] 51))
  have HB := Lib.hid (below_chain Hb.out Hb.out.size be)
  have hz := bx.lt
  have hzz : w.heap.size ≠ V.heap.size := by omega
  clear bx be
  go_wp2_with (at_builtin; refine copy_app rfl _ _ rfl V.heap.size k c _ _ xs rfl He.out rfl Hs.out ?_; intro A' c' w' hs' hg'; have hx' : Bx w' w.heap.size false none 0 0 := Blk.grown Hx.out hg' (by simpa using hzz); have m0 := hx'.c0; have m1 := hx'.c1; have m2 := hx'.f 0; have m3 := hx'.f 1)
  exact bodyPost_ret (v := .tuple #[.agg #[.bool false, .slice A' k c'], .int .i64 0]) (by simp [results, Try.results55, go_sem, m0, m1]) rfl
    ⟨A', k, c', xs, by rw [← Hd.out], hs'.ret hx' _ _, hx, Ha.out.symm, below_ret (below_grown HB.out hg' (by omega) (by have := HB.out.size; omega)) (Nat.le_refl _) _ _⟩

set_option maxHeartbeats 1000000 in
theorem fit_t (A : Option Addr) (n c : Nat) (xs : List Nat) (w : World) (h : Sl w w.heap.size A n c xs) (hx : Nz xs) (h1 : n ≤ 128) (hp : 0 < n) :
    Calls Try.prog 55 #[.bool true, .slice A n c] w (RetIE (sg true (val xs)) 0 w) := by
  have Hb := Lib.hid (below_new w (.cells #[.bool false, .slice none 0 0] 24))
  have Ha := Lib.hid (sg_abs true (val xs))
  have Hd := Lib.hid (show true = decide (sg true (val xs) < 0) by
    have hp' : 0 < val xs := val_pos hx (by rintro rfl; have := h.len; simp at this; omega)
    rw [sg_true]; simp; omega)
  have hp2 : 0 < (n : Int) := by omega
  have h2 : (n : Int) ≤ 128 := by omega
  go_enter Try.func55, Try.ntmps55
  go_wp2_with fail
  have hs := h.on Hb.out
  have bx := Bx.new w false none 0 0
  generalize hW : World.alloc w _ = V at *
  clear hW
  refine (rtrim_any _ _ _ _ xs _ hs).mono ?_
  rintro e w3 ⟨⟨k, hk, rfl, hnz, hv⟩, rfl⟩
  have e0 : List.take k xs = xs := uniq (hs.ok.take k) hs.ok hnz hx hv
  have hkn : k = n := by
    have a := congrArg List.length e0
    rw [List.length_take, hs.len] at a
    omega
  subst hkn
  clear e0 hv hnz hk
  have Hbx := Lib.hid bx
  have be := below_new V (.cells #[] 51)
  have He := Lib.hid (Blk.new V 51 #[])
  have Hs := Lib.hid (hs.on be)
  have Hx := Lib.hid (bx.alloc (.cells #[] 51))
  have HB := Lib.hid (below_chain Hb.out Hb.out.size be)
  have hz := bx.lt
  have hzz : w.heap.size ≠ V.heap.size := by omega
  clear bx be
  go_wp2_with (at_builtin; refine copy_app rfl _ _ rfl V.heap.size k c _ _ xs rfl He.out rfl Hs.out ?_; intro A' c' w' hs' hg'; have hx' : Bx w' w.heap.size false none 0 0 := Blk.grown Hx.out hg' (by simpa using hzz); have m0 := hx'.c0; have m1 := hx'.c1; have m2 := hx'.f 0; have m3 := hx'.f 1)
  exact bodyPost_ret (v := .tuple #[.agg #[.bool true, .slice A' k c'], .int .i64 0]) (by simp [results, Try.results55, go_sem, m0, m1]) rfl
    ⟨A', k, c', xs, by rw [← Hd.out], hs'.ret hx' _ _, hx, Ha.out.symm, below_ret (below_grown HB.out hg' (by omega) (by have := HB.out.size; omega)) (Nat.le_refl _) _ _⟩

set_option maxHeartbeats 1000000 in
theorem fit_z (A : Option Addr) (c : Nat) (w : World) (h : Sl w w.heap.size A 0 c []) :
    Calls Try.prog 55 #[.bool true, .slice A 0 c] w (RetIE (sg true (val [])) 0 w) := by
  have Hb := Lib.hid (below_new w (.cells #[.bool false, .slice none 0 0] 24))
  have Ha := Lib.hid (sg_abs true (val []))
  have hx : Nz [] := Nz.nil
  have Hd := Lib.hid (show false = decide (sg true (val []) < 0) by rw [sg_true]; simp [val])
  go_enter Try.func55, Try.ntmps55
  go_wp2_with fail
  have hs := h.on Hb.out
  have bx := Bx.new w false none 0 0
  generalize hW : World.alloc w _ = V at *
  clear hW
  refine (rtrim_any _ _ _ _ [] _ hs).mono ?_
  rintro e w3 ⟨⟨k, hk, rfl, hnz, hv⟩, rfl⟩
  have e0 : List.take k [] = [] := uniq (hs.ok.take k) hs.ok hnz hx hv
  have hkn : k = 0 := by
    have a := congrArg List.length e0
    rw [List.length_take, hs.len] at a
    omega
  subst hkn
  clear e0 hv hnz hk
  have Hbx := Lib.hid bx
  have be := below_new V (.cells #[] 51)
  have He := Lib.hid (Blk.new V 51 #[])
  have Hs := Lib.hid (hs.on be)
  have Hx := Lib.hid (bx.alloc (.cells #[] 51))
  have HB := Lib.hid (below_chain Hb.out Hb.out.size be)
  have hz := bx.lt
  have hzz : w.heap.size ≠ V.heap.size := by omega
  clear bx be
  go_wp2_with (at_builtin; refine copy_app rfl _ _ rfl V.heap.size 0 c _ _ [] rfl He.out rfl Hs.out ?_; intro A' c' w' hs' hg'; have hx' : Bx w' w.heap.size false none 0 0 := Blk.grown Hx.out hg' (by simpa using hzz); have m0 := hx'.c0; have m1 := hx'.c1; have m2 := hx'.f 0; have m3 := hx'.f 1)
  exact bodyPost_ret (v := .tuple #[.agg #[.bool false, .slice A' 0 c'], .int .i64 0]) (by simp [results, Try.results55, go_sem, m0, m1]) rfl
    ⟨A', 0, c', [], by rw [← Hd.out], hs'.ret hx' _ _, hx, Ha.out.symm, below_ret (below_grown HB.out hg' (by omega) (by have := HB.out.size; omega)) (Nat.le_refl _) _ _⟩

set_option maxHeartbeats 1000000 in
theorem fit_no_walk (neg : Bool) (A : Option Addr) (n c : Nat) (xs : List Nat) (w : World) (h : Sl w w.heap.size A n c xs) (hx : Nz xs) (h1 : 128 < n) :
    Calls Try.prog 55 #[.bool neg, .slice A n c] w (RetIE 0 2 w) := by
  have Hb := Lib.hid (below_new w (.cells #[.bool false, .slice none 0 0] 24))
  have h2 : 128 < (n : Int) := by omega
  go_enter Try.func55, Try.ntmps55
  go_wp2_with fail
  have hs := h.on Hb.out
  have bx := Bx.new w false none 0 0
  generalize hW : World.alloc w _ = V at *
  clear hW
  refine (rtrim_any _ _ _ _ xs _ hs).mono ?_
  rintro e w3 ⟨⟨k, hk, rfl, hnz, hv⟩, rfl⟩
  have e0 : List.take k xs = xs := uniq (hs.ok.take k) hs.ok hnz hx hv
  have hkn : k = n := by
    have a := congrArg List.length e0
    rw [List.length_take, hs.len] at a
    omega
  subst hkn
  clear e0 hv hnz hk
  have Hbx := Lib.hid bx
  have m0 := bx.c0
  have m1 := bx.c1
  have m2 := bx.f 0
  have m3 := bx.f 1
  go_wp2
  exact bodyPost_ret (v := .tuple #[.agg #[.bool false, .slice none 0 0], .int .i64 2]) (by simp [results, Try.results55, go_sem, m0, m1]) rfl
    ⟨none, 0, 0, [], rfl, Sl.nil _ _, Nz.nil, rfl, below_ret Hb.out (Nat.le_refl _) _ _⟩

theorem fit_any (neg : Bool) (A : Option Addr) (n c : Nat) (xs : List Nat) (w : World) (h : Sl w w.heap.size A n c xs) (hx : Nz xs) :
    Calls Try.prog 55 #[.bool neg, .slice A n c] w (RetIE (fitZ (sg neg (val xs))) (fitE (sg neg (val xs))) w) := by
  by_cases h1 : n ≤ 128
  · have hf := fit_yes (z := sg neg (val xs)) (by rw [sg_abs, big_iff h.ok hx, h.len]; omega)
    rw [hf.1, hf.2]
    cases neg with
    | false => exact fit_f A n c xs w h hx h1
    | true =>
      rcases Nat.eq_zero_or_pos n with h0 | h0
      · subst h0
        obtain rfl : xs = [] := List.eq_nil_of_length_eq_zero h.len
        exact fit_z A c w h
      · exact fit_t A n c xs w h hx h1 h0
  · have hf := fit_no (z := sg neg (val xs)) (by rw [sg_abs, big_iff h.ok hx, h.len]; omega)
    rw [hf.1, hf.2]
    exact fit_no_walk neg A n c xs w h hx (by omega)

end Go.Proofs.Ytalgcppogjpilaa
