/-
  The walk of the reference's negative.
-/
import Derived.Test.YtalgcppogjpilaaRefAdd
namespace Go.Proofs.Ytalgcppogjpilaa
open Go.RowKit

set_option maxHeartbeats 2000000 in
theorem neg_f (A : Option Addr) (n c : Nat) (xs : List Nat) (w : World) (h : Sl w w.heap.size A n c xs) (hx : Nz xs) (hp : 0 < n) :
    Calls Try.prog 59 #[.agg #[.bool false, .slice A n c]] w (RetI (sg true (val xs)) w) := by
  have Hx2 := Lib.hid hx
  have Ha := Lib.hid (sg_abs true (val xs))
  have Hd := Lib.hid (show true = decide (sg true (val xs) < 0) by
    have hp' : 0 < val xs := val_pos hx (by rintro rfl; have := h.len; simp at this; omega)
    rw [sg_true]; simp; omega)
  have hd : decide (0 < (n : Int)) = true := by simp; omega
  clear hx
  go_enter Try.func59, Try.ntmps59
  go_wp2_with fail
  generalize hW : World.alloc (World.alloc w _) _ = V
  obtain ⟨hb, hz, b0, b1⟩ := one_boxes false A n c w V hW
  have hs := h.on hb
  clear hW
  have k0 := b0.c0
  have k1 := b0.c1
  have k3 := b1.c0
  have k4 := b1.c1
  have k5 := b1.f 0
  have k6 := b1.f 1
  have be := below_new V (.cells #[] 51)
  have He := Lib.hid (Blk.new V 51 #[])
  have Hs := Lib.hid (hs.on be)
  have Hx0 := Lib.hid (b0.alloc (.cells #[] 51))
  have Hx := Lib.hid (b1.alloc (.cells #[] 51))
  have HB0 := below_chain hb hb.size be
  have HB := Lib.hid (⟨HB0.os, HB0.tape, HB0.output, HB0.size, HB0.block⟩ : Below w.heap.size w (V.alloc (.cells #[] 51)).drew)
  clear HB0
  have hsz := Lib.hid hb.size
  have ne0 : w.heap.size ≠ V.heap.size := by omega
  have ne1 : w.heap.size + 1 ≠ V.heap.size := by omega
  have w0 := World.new_ne V _ k0
  have w1 := World.new_ne V _ k1
  have w3 := World.new_ne V _ k3
  have w4 := World.new_ne V _ k4
  go_region_held3 (fun w' => w'.cell? ⟨w.heap.size, 0, none⟩ = some (.bool false) ∧ w'.cell? ⟨w.heap.size, 1, none⟩ = some (.slice A n c))
    (first | exact ⟨p0, p1⟩ | go_keep)
    ((refine step_copy_app (by rfl) _ _ (by rfl) V.heap.size n c _ _ xs (by rfl) He.out.drew (by rfl) Hs.out.drew ?_; intro A' c' w' hs' hg'; have hx' : Bx w' (w.heap.size + 1) false none 0 0 := Blk.grown Hx.out.drew hg' (by simpa using ne1); have hx0 : Bx w' w.heap.size false A n c := Blk.grown Hx0.out.drew hg' (by simpa using ne0); have p0 := hx0.c0; have p1 := hx0.c1; have m0 := hx'.c0; have m1 := hx'.c1; have m2 := hx'.f 0; have m3 := hx'.f 1))
  go_wp2
  exact bodyPost_ret (v := .agg #[.bool true, .slice A' n c']) (by simp [results, Try.results59, go_sem, m0, m1]) rfl
    ⟨A', n, c', xs, ret_neg Hd.out, hs'.ret hx' _ _, Hx2.out, Ha.out.symm, below_ret (below_grown HB.out hg' (by omega) (Nat.le_trans hsz.out be.size)) (by omega) _ _⟩

set_option maxHeartbeats 2000000 in
theorem neg_0 (A : Option Addr) (c : Nat) (xs : List Nat) (w : World) (h : Sl w w.heap.size A 0 c xs) (hx : Nz xs) :
    Calls Try.prog 59 #[.agg #[.bool false, .slice A 0 c]] w (RetI (sg false (val xs)) w) := by
  have Hx2 := Lib.hid hx
  have Ha := Lib.hid (sg_abs false (val xs))
  have Hd := Lib.hid (show false = decide (sg false (val xs) < 0) by
    rw [sg_false]; simp)
  clear hx
  go_enter Try.func59, Try.ntmps59
  go_wp2_with fail
  generalize hW : World.alloc (World.alloc w _) _ = V
  obtain ⟨hb, hz, b0, b1⟩ := one_boxes false A 0 c w V hW
  have hs := h.on hb
  clear hW
  have k0 := b0.c0
  have k1 := b0.c1
  have k3 := b1.c0
  have k4 := b1.c1
  have k5 := b1.f 0
  have k6 := b1.f 1
  have be := below_new V (.cells #[] 51)
  have He := Lib.hid (Blk.new V 51 #[])
  have Hs := Lib.hid (hs.on be)
  have Hx0 := Lib.hid (b0.alloc (.cells #[] 51))
  have Hx := Lib.hid (b1.alloc (.cells #[] 51))
  have HB0 := below_chain hb hb.size be
  have HB := Lib.hid (⟨HB0.os, HB0.tape, HB0.output, HB0.size, HB0.block⟩ : Below w.heap.size w (V.alloc (.cells #[] 51)).drew)
  clear HB0
  have hsz := Lib.hid hb.size
  have ne0 : w.heap.size ≠ V.heap.size := by omega
  have ne1 : w.heap.size + 1 ≠ V.heap.size := by omega
  have w0 := World.new_ne V _ k0
  have w1 := World.new_ne V _ k1
  have w3 := World.new_ne V _ k3
  have w4 := World.new_ne V _ k4
  go_region_held3 (fun w' => w'.cell? ⟨w.heap.size, 0, none⟩ = some (.bool false) ∧ w'.cell? ⟨w.heap.size, 1, none⟩ = some (.slice A 0 c))
    (first | exact ⟨p0, p1⟩ | go_keep)
    ((refine step_copy_app (by rfl) _ _ (by rfl) V.heap.size 0 c _ _ xs (by rfl) He.out.drew (by rfl) Hs.out.drew ?_; intro A' c' w' hs' hg'; have hx' : Bx w' (w.heap.size + 1) false none 0 0 := Blk.grown Hx.out.drew hg' (by simpa using ne1); have hx0 : Bx w' w.heap.size false A 0 c := Blk.grown Hx0.out.drew hg' (by simpa using ne0); have p0 := hx0.c0; have p1 := hx0.c1; have m0 := hx'.c0; have m1 := hx'.c1; have m2 := hx'.f 0; have m3 := hx'.f 1))
  go_wp2
  exact bodyPost_ret (v := .agg #[.bool false, .slice A' 0 c']) (by simp [results, Try.results59, go_sem, m0, m1]) rfl
    ⟨A', 0, c', xs, ret_neg Hd.out, hs'.ret hx' _ _, Hx2.out, Ha.out.symm, below_ret (below_grown HB.out hg' (by omega) (Nat.le_trans hsz.out be.size)) (by omega) _ _⟩

set_option linter.unusedSimpArgs false in
set_option maxHeartbeats 2000000 in
theorem neg_t (A : Option Addr) (n c : Nat) (xs : List Nat) (w : World) (h : Sl w w.heap.size A n c xs) (hx : Nz xs) :
    Calls Try.prog 59 #[.agg #[.bool true, .slice A n c]] w (RetI (sg false (val xs)) w) := by
  have Hx2 := Lib.hid hx
  have Ha := Lib.hid (sg_abs false (val xs))
  have Hd := Lib.hid (show false = decide (sg false (val xs) < 0) by
    rw [sg_false]; simp)
  clear hx
  go_enter Try.func59, Try.ntmps59
  go_wp2_with fail
  generalize hW : World.alloc (World.alloc w _) _ = V
  obtain ⟨hb, hz, b0, b1⟩ := one_boxes true A n c w V hW
  have hs := h.on hb
  clear hW
  have k0 := b0.c0
  have k1 := b0.c1
  have k3 := b1.c0
  have k4 := b1.c1
  have k5 := b1.f 0
  have k6 := b1.f 1
  have be := below_new V (.cells #[] 51)
  have He := Lib.hid (Blk.new V 51 #[])
  have Hs := Lib.hid (hs.on be)
  have Hx0 := Lib.hid (b0.alloc (.cells #[] 51))
  have Hx := Lib.hid (b1.alloc (.cells #[] 51))
  have HB0 := below_chain hb hb.size be
  have HB := Lib.hid (⟨HB0.os, HB0.tape, HB0.output, HB0.size, HB0.block⟩ : Below w.heap.size w (V.alloc (.cells #[] 51)).drew)
  clear HB0
  have hsz := Lib.hid hb.size
  have ne0 : w.heap.size ≠ V.heap.size := by omega
  have ne1 : w.heap.size + 1 ≠ V.heap.size := by omega
  have w0 := World.new_ne V _ k0
  have w1 := World.new_ne V _ k1
  have w3 := World.new_ne V _ k3
  have w4 := World.new_ne V _ k4
  refine wp_region_held_drew (S := fun w' => w'.cell? ⟨w.heap.size, 0, none⟩ = some (.bool true) ∧ w'.cell? ⟨w.heap.size, 1, none⟩ = some (.slice A n c)) (by kernel_rfl) (by (try dsimp only); go_keep) (fun hHeld => ?_)
  refine wpAnyH_take (i := 0) (v := .pointer (some ⟨w.heap.size, 0, none⟩)) rfl (by kernel_rfl) (by kernel_rfl) (by kernel_rfl) (fun _ _ _ h => h) (Or.inl ⟨by rfl, by intro w hSw; (try dsimp only at hSw); go_simp⟩) (by assumption) ?_
  try simp only [Act.put, List.setIfInBounds_toArray, List.set_cons_zero, List.set_cons_succ]
  refine wpAnyH_take (i := 1) (v := .bool true) rfl (by kernel_rfl) (by kernel_rfl) (by kernel_rfl) (fun _ _ _ h => h) (Or.inl ⟨by rfl, by intro w hSw; (try dsimp only at hSw); go_simp⟩) (by assumption) ?_
  try simp only [Act.put, List.setIfInBounds_toArray, List.set_cons_zero, List.set_cons_succ]
  refine wpAnyH_take (i := 2) (v := .bool false) rfl (by kernel_rfl) (by kernel_rfl) (by kernel_rfl) (fun _ _ _ h => h) (Or.inl ⟨by rfl, by intro w hSw; (try dsimp only at hSw); go_simp⟩) (by assumption) ?_
  try simp only [Act.put, List.setIfInBounds_toArray, List.set_cons_zero, List.set_cons_succ]
  refine wpAnyH_take (i := 3) (v := .bool false) rfl (by kernel_rfl) (by kernel_rfl) (by kernel_rfl) (fun _ _ _ h => h) (Or.inl ⟨by rfl, by intro w hSw; (try dsimp only at hSw); go_simp⟩) (by assumption) ?_
  try simp only [Act.put, List.setIfInBounds_toArray, List.set_cons_zero, List.set_cons_succ]
  refine wpAnyH_take (i := 4) (v := undef) rfl (by kernel_rfl) (by kernel_rfl) (by kernel_rfl) (fun _ _ _ h => h) (Or.inr ⟨by rfl, rfl⟩) (by assumption) ?_
  try simp only [Act.put, List.setIfInBounds_toArray, List.set_cons_zero, List.set_cons_succ]
  refine wpAnyH_take (i := 5) (v := undef) rfl (by kernel_rfl) (by kernel_rfl) (by kernel_rfl) (fun _ _ _ h => h) (Or.inr ⟨by rfl, rfl⟩) (by assumption) ?_
  try simp only [Act.put, List.setIfInBounds_toArray, List.set_cons_zero, List.set_cons_succ]
  refine wpAnyH_take (i := 6) (v := undef) rfl (by kernel_rfl) (by kernel_rfl) (by kernel_rfl) (fun _ _ _ h => h) (Or.inr ⟨by rfl, rfl⟩) (by assumption) ?_
  try simp only [Act.put, List.setIfInBounds_toArray, List.set_cons_zero, List.set_cons_succ]
  refine wpAnyH_take (i := 7) (v := undef) rfl (by kernel_rfl) (by kernel_rfl) (by kernel_rfl) (fun _ _ _ h => h) (Or.inr ⟨by rfl, rfl⟩) (by assumption) ?_
  try simp only [Act.put, List.setIfInBounds_toArray, List.set_cons_zero, List.set_cons_succ]
  refine wpAnyH_take (i := 8) (v := .bool false) rfl (by kernel_rfl) (by kernel_rfl) (by kernel_rfl) (fun _ _ _ h => h) (Or.inl ⟨by rfl, by intro w hSw; (try dsimp only at hSw); go_simp⟩) (by assumption) ?_
  try simp only [Act.put, List.setIfInBounds_toArray, List.set_cons_zero, List.set_cons_succ]
  refine wpAnyH_take (i := 10) (v := .pointer (some ⟨w.heap.size, 1, none⟩)) rfl (by kernel_rfl) (by kernel_rfl) (by kernel_rfl) (fun _ _ _ h => h) (Or.inl ⟨by rfl, by intro w hSw; (try dsimp only at hSw); go_simp⟩) (by assumption) ?_
  try simp only [Act.put, List.setIfInBounds_toArray, List.set_cons_zero, List.set_cons_succ]
  refine wpAnyH_take (i := 11) (v := .slice A n c) rfl (by kernel_rfl) (by kernel_rfl) (by kernel_rfl) (fun _ _ _ h => h) (Or.inl ⟨by rfl, by intro w hSw; (try dsimp only at hSw); go_simp⟩) (by assumption) ?_
  try simp only [Act.put, List.setIfInBounds_toArray, List.set_cons_zero, List.set_cons_succ]
  refine wpAnyH_ready (rs := [9]) (by kernel_rfl) (by simp) (AllReadyH.cons rfl (fun K hK => ?_) AllReadyH.nil)
  go_simp
  refine hK.out _ _ (by (try dsimp only); go_keep) (fun hHeld2 => ?_)
  clear hK K
  try simp only [Act.put, List.setIfInBounds_toArray, List.set_cons_zero, List.set_cons_succ]
  refine wpAnyH_ready (rs := [12]) (by kernel_rfl) (by simp) (AllReadyH.cons rfl (fun K hK => ?_) AllReadyH.nil)
  refine step_copy_app (by rfl) _ _ (by rfl) V.heap.size n c _ _ xs (by rfl) He.out.drew (by rfl) Hs.out.drew ?_
  intro A' c' w' hs' hg'
  have hx' : Bx w' (w.heap.size + 1) false none 0 0 := Blk.grown Hx.out.drew hg' (by simpa using ne1)
  have hx0 : Bx w' w.heap.size true A n c := Blk.grown Hx0.out.drew hg' (by simpa using ne0)
  have p0 := hx0.c0
  have p1 := hx0.c1
  have m0 := hx'.c0
  have m1 := hx'.c1
  have m2 := hx'.f 0
  have m3 := hx'.f 1
  refine hK.out _ _ (⟨p0, p1⟩) (fun hHeld3 => ?_)
  clear hK K
  try simp only [Act.put, List.setIfInBounds_toArray, List.set_cons_zero, List.set_cons_succ]
  refine wpAnyH_take (i := 13) (v := .agg #[.bool false, .slice A' n c']) rfl (by kernel_rfl) (by kernel_rfl) (by kernel_rfl) (fun _ _ _ h => h) (Or.inl ⟨by rfl, by intro w hSw; (try dsimp only at hSw); go_simp⟩) (by assumption) ?_
  try simp only [Act.put, List.setIfInBounds_toArray, List.set_cons_zero, List.set_cons_succ]
  refine wpAnyH_ready (rs := [14]) (by kernel_rfl) (by simp) (AllReadyH.cons rfl (fun K hK => ?_) AllReadyH.nil)
  go_simp
  refine hK.out _ _ (by (try dsimp only); go_keep) (fun hHeld4 => ?_)
  clear hK K
  try simp only [Act.put, List.setIfInBounds_toArray, List.set_cons_zero, List.set_cons_succ]
  refine wpAnyH_done (by kernel_rfl) ?_ _
  go_wp2
  exact bodyPost_ret (v := .agg #[.bool false, .slice A' n c']) (by simp [results, Try.results59, go_sem, m0, m1]) rfl
    ⟨A', n, c', xs, ret_neg Hd.out, hs'.ret hx' _ _, Hx2.out, Ha.out.symm, below_ret (below_grown HB.out hg' (by omega) (Nat.le_trans hsz.out be.size)) (by omega) _ _⟩

theorem neg_any (neg : Bool) (A : Option Addr) (n c : Nat) (xs : List Nat) (w : World) (h : Sl w w.heap.size A n c xs) (hx : Nz xs) :
    Calls Try.prog 59 #[.agg #[.bool neg, .slice A n c]] w (RetI (- sg neg (val xs)) w) := by
  cases neg with
  | true => have := neg_t A n c xs w h hx; rwa [show sg false (val xs) = - sg true (val xs) by rw [sg_true, sg_false]; omega] at this
  | false =>
    rcases Nat.eq_zero_or_pos n with rfl | hp
    · have := neg_0 A c xs w h hx
      have e : xs = [] := List.eq_nil_of_length_eq_zero h.len
      subst e
      rwa [show sg false (val []) = - sg false (val []) by rw [sg_false, val_nil]; rfl] at this
    · have := neg_f A n c xs w h hx hp; rwa [show sg true (val xs) = - sg false (val xs) by rw [sg_true, sg_false]] at this

end Go.Proofs.Ytalgcppogjpilaa
