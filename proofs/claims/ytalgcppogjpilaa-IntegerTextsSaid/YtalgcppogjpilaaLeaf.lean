/-
  The walks of ofWord, clone.
-/
import Derived.Test.YtalgcppogjpilaaTrim
namespace Go.Proofs.Ytalgcppogjpilaa
open Go.RowKit

set_option maxHeartbeats 400000 in
theorem ofWord_any (x : Int) (w : World) (h0 : 0 ≤ x) (h1 : x < 18446744073709551616) :
    Calls Try.prog 50 #[.int .u64 x] w fun e w' => ∃ A n c xs, e = .returned (.slice A n c) ∧ Sl w' w'.heap.size A n c xs ∧ Nz xs ∧ val xs = x.toNat ∧ Below w.heap.size w w' := by
  go_enter Try.func50, Try.ntmps50
  go_wp2_with fail
  have hrow : Row (w.alloc (Obj.cells #[Value.int IntKind.u32 (x % 4294967296), Value.int IntKind.u32 (x / 4294967296)] 51)) w.heap.size [(x % 4294967296).toNat, (x / 4294967296).toNat] := by
    have e : #[Value.int IntKind.u32 (x % 4294967296), Value.int IntKind.u32 (x / 4294967296)] = (us [(x % 4294967296).toNat, (x / 4294967296).toNat]).toArray := by
      simp [us]; omega
    rw [e]; exact Blk.new w _ _
  have hok : Ok [(x % 4294967296).toNat, (x / 4294967296).toNat] := Ok.cons (by omega) (Ok.cons (by omega) Ok.nil)
  have hsl := hrow.sl (B := w.heap.size + 1) (n := 2) (c := 2) (by omega) 0 (by simp) (by omega) (by omega) hok
  refine (trim_any _ 2 2 (w.heap.size + 1) _ _ hsl).mono ?_
  rintro e w' ⟨⟨k, hk, rfl, hnz, hv⟩, rfl⟩
  go_wp2
  go_ret
  refine ⟨_, _, _, _, rfl, ?_, hnz, ?_, (Below.refl _ _).alloc (Nat.le_refl _) _⟩
  · exact (hsl.to hk).more (by simp)
  · rw [hv]; simp [val]; omega

set_option maxHeartbeats 400000 in
theorem clone_any (A : Option Addr) (n c B : Nat) (xs : List Nat) (w : World) (h : Sl w B A n c xs) (hB : B ≤ w.heap.size) :
    Calls Try.prog 80 #[.slice A n c] w fun e w' => e = .returned (.slice (some ⟨w.heap.size, 0, none⟩) n n) ∧ Row w' w.heap.size xs ∧ Below w.heap.size w w' := by
  have hr := h.reach
  have hcr := h.capr
  have hcap := h.cap
  have hl := Lib.hid h.len
  have hmk := make_any (n : Int) n rfl (by omega)
  have hrow := Lib.hid (Row.made w n)
  go_enter Try.func80, Try.ntmps80
  go_wp2_with (with_reducible refine copy_us rfl _ _ rfl _ _ _ _ _ _ B _ xs _ rfl rfl hrow.out (h.alloc hB _) (by rw [List.length_replicate]; omega) ?_; intro w' hw hb)
  go_ret
  have e : over (List.replicate n 0) 0 (xs.take n) = xs := by
    rw [List.take_of_length_le (by rw [hl.out]; omega), over_all (by rw [hl.out, List.length_replicate])]
  rw [e] at hw
  exact ⟨rfl, hw, ((Below.refl _ _).alloc (Nat.le_refl _) _).trans hb⟩

end Go.Proofs.Ytalgcppogjpilaa
