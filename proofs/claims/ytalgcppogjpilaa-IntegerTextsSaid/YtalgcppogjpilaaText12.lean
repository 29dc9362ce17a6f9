/-
  The walk of Text at -12, and of Parse at -0.
-/
import Derived.Test.YtalgcppogjpilaaShiftR
namespace Go.Proofs.Ytalgcppogjpilaa
open Go.RowKit

/-- Eleven zero bytes. -/
def z11 : Array Value := #[.int .u8 0, .int .u8 0, .int .u8 0, .int .u8 0, .int .u8 0, .int .u8 0, .int .u8 0, .int .u8 0, .int .u8 0, .int .u8 0, .int .u8 0]
theorem mk11 : ∀ w : World, (Instr.makeSlice 67 (.int .i64 11) (.int .i64 11)).run Try.prog w = .ok (.slice (some ⟨w.heap.size, 0, none⟩) 11 11) (w.alloc (.cells z11 5)) := fun _ => by kernel_rfl

set_option maxHeartbeats 2000000 in
theorem text_12 (A : Option Addr) (n c : Nat) (xs : List Nat) (w : World) (h : Sl w w.heap.size A n c xs) (hxs : xs = [12]) :
    Calls Try.prog 44 #[.agg #[.bool true, .slice A n c]] w fun e w' => e = .returned (.tuple #[.string ⟨#[45, 49, 50]⟩, .int .i64 0]) ∧ Below w.heap.size w w' := by
  obtain rfl : n = 1 := by have := h.len; rw [hxs] at this; simpa using this.symm
  subst hxs
  have hv : vld true [12] = true := by decide
  have hmk := mk11
  go_enter Try.func44, Try.ntmps44
  go_wp2_with fail
  generalize hW : World.alloc w _ = W
  have hb : Below w.heap.size w W := by subst hW; exact (Below.refl _ _).alloc (Nat.le_refl _) _
  have b0 : Bx W w.heap.size true A 1 c := by subst hW; exact Bx.new _ _ _ _ _
  have hs := h.on hb
  have hz := b0.lt
  clear hW
  refine (valid_any _ _ _ _ _ [12] _ hs (Nat.le_refl _)).mono ?_
  rintro e w1 ⟨rfl, hb1⟩
  have b0 := b0.below hb1 (by omega)
  have hs := hs.on hb1
  have hb := below_chain hb (by omega) hb1
  have k0 := b0.c0
  have k1 := b0.c1
  have hz1 := b0.lt
  have b1 := b0.alloc (.cells z11 5)
  have k0' := b1.c0
  have k1' := b1.c1
  clear hb1
  go_wp2_with fail
  generalize hW : World.alloc w1 _ = W1
  have b2 : Bx W1 w.heap.size true A 1 c := by rw [← hW]; exact b1
  have hb1 := (Below.refl w1.heap.size w1).alloc (Nat.le_refl _) (.cells z11 5)
  have hs2 : Sl W1 W1.heap.size A 1 c [12] := by rw [← hW]; exact hs.on hb1
  have t1 : Blk W1 w1.heap.size 5 z11 := by rw [← hW]; exact Blk.new _ _ _
  have hb2 : Below w.heap.size w W1 := by rw [← hW]; exact below_chain hb (by omega) hb1
  have hT : w.heap.size < w1.heap.size := hz1
  have hz2 := t1.lt
  clear hb1 k0 k1 k0' k1' hW b1 hmk
  generalize w1.heap.size = T at *
  refine (clone_any _ _ _ _ [12] _ hs2 (Nat.le_refl _)).mono ?_
  rintro e w2 ⟨rfl, hrow, hb3⟩
  have b3 := b2.below hb3 (by omega)
  have t3 := Blk.below t1 hb3 hz2
  have hb4 := below_chain hb2 (by omega) hb3
  have hz3 := hrow.lt
  have t4 := t3
  have hrow1 : Row w2 W1.heap.size [12] := hrow
  generalize W1.heap.size = G at *
  clear hs hb3 hs2 b2 t1 hb2 t3 hrow
  go_wp2
  refine wp_loop_rounds 2 ?_
  rw [rounds_succ]
  go_wp2_with fail
  refine (divLimb_any G 0 1 1 1000000000 [12] w2 hrow1 (by simp) (Ok.cons (by omega) Ok.nil) (by omega) (by omega) (by omega)).mono ?_
  rintro e w3 ⟨zs, r, rfl, hr, hr2, hok, hsame, hv3, hg3⟩
  obtain ⟨q, rfl⟩ : ∃ q, zs = [q] := by
    have hl := hsame.1
    rcases zs with _ | ⟨q, _ | ⟨e, ys⟩⟩
    · simp at hl
    · exact ⟨q, rfl⟩
    · simp at hl
  have e1 : wv [12] 0 1 = 12 := by decide
  have e2 : wv [q] 0 1 = q := by simp [wv, lim_eq]
  rw [e1, e2] at hv3
  obtain rfl : q = 0 := by omega
  obtain rfl : r = 12 := by omega
  have b4 := Blk.grown b3 hg3 (by simp; omega)
  have t5 := Blk.grown t4 hg3 (by simp; omega)
  have hb5 := below_grown hb4 hg3 (by omega) (by have := b3.lt; omega)
  have hz4 : G < w3.heap.size := hr2.lt
  have hsl := hr2.sl (B := w3.heap.size) (n := 1) (c := 1) hz4 0 (by simp) (by omega) (by omega) hok
  clear hv3 hsame hr e1 e2 hrow1 t4 b3 hb4 hg3 hr2
  go_wp2_with fail
  refine (trim_any _ _ _ _ _ w3 hsl).mono ?_
  rintro e w4 ⟨⟨k, hk, rfl, hnz, hv⟩, rfl⟩
  obtain rfl : k = 0 := by
    rcases k with _ | k
    · rfl
    · obtain rfl : k = 0 := by omega
      exact absurd rfl hnz
  clear hv hnz hsl
  have c10 : w3.cell? ⟨T, 10, none⟩ = some (.int .u8 0) := by rw [Blk.cell t5 10]; rfl
  have c9 : w3.cell? ⟨T, 9, none⟩ = some (.int .u8 0) := by rw [Blk.cell t5 9]; rfl
  have c8 : w3.cell? ⟨T, 8, none⟩ = some (.int .u8 0) := by rw [Blk.cell t5 8]; rfl
  have f10 := Blk.frozen t5 10
  have f9 := Blk.frozen t5 9
  have f8 := Blk.frozen t5 8
  have k0 : w3.cell? ⟨w.heap.size, 0, none⟩ = some (.bool true) := by rw [Blk.cell b4 0]; rfl
  have ne1 : w.heap.size ≠ T := by omega
  have ne2 : T ≠ w.heap.size := by omega
  have hconv : (convert 67 9 (.slice (some ⟨T, 8, none⟩) 3 3)).run Try.prog (((w3.setCell ⟨T, 10, none⟩ (.int .u8 50)).setCell ⟨T, 9, none⟩ (.int .u8 49)).setCell ⟨T, 8, none⟩ (.int .u8 45)) =
      .ok (.string ⟨#[45, 49, 50]⟩) (((w3.setCell ⟨T, 10, none⟩ (.int .u8 50)).setCell ⟨T, 9, none⟩ (.int .u8 49)).setCell ⟨T, 8, none⟩ (.int .u8 45)) := by
    refine run_convert_bytes_arg (P := Try.prog) _ 67 5 Try.underlying67 Try.underlying5 T 8 3 3 [45, 49, 50] rfl ?_ 9 Try.underlying9
    have t6 := Blk.set_ (Blk.set_ (Blk.set_ t5 10 (.int .u8 50)) 9 (.int .u8 49)) 8 (.int .u8 45)
    intro i hi
    rw [Blk.cell t6 (8 + i)]
    rcases i with _ | _ | _ | i
    · rfl
    · rfl
    · rfl
    · omega
  go_wp2
  refine wp_loop_rounds 3 ?_
  rw [rounds_succ]
  go_wp2
  rw [rounds_succ]
  go_wp2
  rw [rounds_succ]
  go_wp2
  rw [rounds_succ]
  go_wp2
  go_ret2
  exact ⟨rfl, ((hb5.setCell (p := ⟨T, 10, none⟩) (by show w.heap.size ≤ T; omega) _).setCell (p := ⟨T, 9, none⟩) (by show w.heap.size ≤ T; omega) _).setCell (p := ⟨T, 8, none⟩) (by show w.heap.size ≤ T; omega) _⟩

end Go.Proofs.Ytalgcppogjpilaa
