/-
  The walk of Parse at -0.
-/
import Derived.Test.YtalgcppogjpilaaText12
namespace Go.Proofs.Ytalgcppogjpilaa
open Go.RowKit

set_option maxHeartbeats 1000000 in
theorem hasPrefix_m0 (w : World) : Calls Try.prog 100 #[.string ⟨#[45, 48]⟩, .string ⟨#[45]⟩] w fun e w' => e = .returned (.bool true) ∧ w = w' := by
  go_enter Try.func100, Try.ntmps100
  go_wp2
  go_ret
  exact ⟨ret_bool (by kernel_rfl), rfl⟩

set_option maxHeartbeats 1000000 in
theorem cutPrefix_m0 (w : World) : Calls Try.prog 94 #[.string ⟨#[45, 48]⟩, .string ⟨#[45]⟩] w fun e w' => e = .returned (.tuple #[.string ⟨#[48]⟩, .bool true]) ∧ w = w' := by
  go_enter Try.func94, Try.ntmps94
  go_wp2_with fail
  refine (hasPrefix_m0 _).mono ?_
  rintro e w1 ⟨rfl, rfl⟩
  go_wp2
  go_ret2
  exact ⟨rfl, rfl⟩

set_option maxHeartbeats 1000000 in
theorem cut_m0 (w : World) : Calls Try.prog 84 #[.string ⟨#[45, 48]⟩, .string ⟨#[45]⟩] w fun e w' => e = .returned (.tuple #[.string ⟨#[48]⟩, .bool true]) ∧ w = w' := by
  go_enter Try.func84, Try.ntmps84
  go_wp2_with fail
  refine (cutPrefix_m0 _).mono ?_
  rintro e w1 ⟨rfl, rfl⟩
  go_wp2
  go_ret2
  exact ⟨rfl, rfl⟩

set_option maxHeartbeats 1000000 in
theorem decimal_0 (w : World) : Calls Try.prog 85 #[.string ⟨#[48]⟩] w fun e w' => e = .returned (.bool true) ∧ w = w' := by
  go_enter Try.func85, Try.ntmps85
  go_wp2
  refine wp_loop_rounds 2 ?_
  rw [rounds_succ]
  go_wp2
  rw [rounds_succ]
  go_wp2
  go_ret
  exact ⟨rfl, rfl⟩

set_option maxHeartbeats 1000000 in
theorem parse_m0 (w : World) : Calls Try.prog 46 #[.string ⟨#[45, 48]⟩] w (RetIE 0 3 w) := by
  have Hb := Lib.hid ((Below.refl w.heap.size w).alloc (Nat.le_refl _) (.cells #[.bool false, .slice none 0 0] 24))
  go_enter Try.func46, Try.ntmps46
  go_wp2_with fail
  refine (cut_m0 _).mono ?_
  rintro e w1 ⟨rfl, rfl⟩
  go_wp2_with fail
  refine (decimal_0 _).mono ?_
  rintro e w1 ⟨rfl, rfl⟩
  go_wp2
  exact bodyPost_ret (v := .tuple #[.agg #[.bool false, .slice none 0 0], .int .i64 3]) (by simp [results, Try.results46, go_sem]) rfl
      ⟨none, 0, 0, [], rfl, Sl.nil _ _, Nz.nil, rfl, Hb.out⟩

end Go.Proofs.Ytalgcppogjpilaa
