/-
  Stage 2: the reference's Ints, where both numbers are the same.
-/
import Derived.Test.YtfodjaeknhomkaaBaseA
namespace Go.Proofs.Ytfodjaeknhomkaa
open Go.RowKit
set_option maxHeartbeats 1000000 in
theorem ints_yes (neg neg' : Bool) (A A' : Option Addr) (n c n' c' : Nat) (xs ys : List Nat) (w : World) (h : Sl w w.heap.size A n c xs) (h' : Sl w w.heap.size A' n' c' ys) (hneg : neg = neg') (hxy : xs = ys) :
    Calls Try.prog 16 #[.agg #[.bool neg, .slice A n c], .agg #[.bool neg', .slice A' n' c']] w fun e w' => e = .returned (.bool true) ∧ Below w.heap.size w w' := by
  subst hneg
  subst hxy
  have hn := h.len
  have hn' := h'.len
  obtain rfl : n = n' := by omega
  have hcap := h.cap
  have hreach := h.reach
  clear hn hn'
  have e1 : (neg != neg) = false := by simp
  have e2 : ((n : Int) != (n : Int)) = false := by simp
  go_enter Try.func16, Try.ntmps16
  go_wp2
  generalize hW : World.alloc (World.alloc w _) _ = W
  have hb : Below w.heap.size w W := by subst hW; exact ((Below.refl _ _).alloc (Nat.le_refl _) _).alloc (by simp) _
  have hs := h.on hb
  have hs' := h'.on hb
  have b0 : Bx W w.heap.size neg A n c := by subst hW; exact (Bx.new _ _ _ _ _).alloc _
  have b1 : Bx W (w.heap.size + 1) neg A' n c' := by
    subst hW
    have := Bx.new (w.alloc (.cells #[.bool neg, .slice A n c] 26)) neg A' n c'
    simpa using this
  have k1 := b0.c1
  have k3 := b1.c1
  have HB := Lib.hid hb
  clear hW hb
  go_loopw [5] (fun iv wr => ∃ k q : Nat, k ≤ n ∧ iv = .int .i64 k ∧ wr = W.drewN q) (fun iv _ => n - (intOf iv).toNat)
  case atStart => exact ⟨0, 0, by omega, rfl, rfl⟩
  case round =>
    obtain ⟨k, q, hk, rfl, rfl⟩ := hrel
    by_cases hkn : k < n
    · obtain ⟨ad, rfl, _, hc1⟩ := hs.cell hkn
      obtain ⟨ad', rfl, _, hc2⟩ := hs'.cell hkn
      have e3 : ((lim xs k : Nat) != ((lim xs k : Nat) : Int)) = false := by simp
      go_wp2_with fail
      go_quiet (fail)
      go_wp2
      exact ⟨⟨k + 1, _, by omega, by go_num, by first | rfl | (simp only [World.drewN_drewN]; rfl)⟩, by simp [intOf]; omega⟩
    · go_wp2
      go_ret
      exact ⟨rfl, below_drewN HB.out _⟩
end Go.Proofs.Ytfodjaeknhomkaa
