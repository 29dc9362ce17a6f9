/-
  Same answers no where two integers differ.
-/
import Derived.Test.YtalgcppogjpilaaCmpZ
namespace Go.Proofs.Ytalgcppogjpilaa
open Go.RowKit

theorem lims_eq {xs ys : List Nat} (hl : xs.length = ys.length) (h : ∀ j, j < xs.length → lim xs j = lim ys j) : xs = ys := by
  apply List.ext_getElem hl
  intro i h1 h2
  have := h i h1
  simpa [lim, List.getD_eq_getElem?_getD, List.getElem?_eq_getElem h1, List.getElem?_eq_getElem h2] using this

set_option maxHeartbeats 1000000 in
theorem same_tf (A A' : Option Addr) (n c n' c' : Nat) (w : World) :
    Calls Try.prog 52 #[.agg #[.bool true, .slice A n c], .agg #[.bool false, .slice A' n' c']] w fun e w' => e = .returned (.bool false) ∧ Below w.heap.size w w' := by
  go_enter Try.func52, Try.ntmps52
  go_wp2
  go_ret
  exact ⟨rfl, ((Below.refl _ _).alloc (Nat.le_refl _) _).alloc (by simp) _⟩

set_option maxHeartbeats 1000000 in
theorem same_ft (A A' : Option Addr) (n c n' c' : Nat) (w : World) :
    Calls Try.prog 52 #[.agg #[.bool false, .slice A n c], .agg #[.bool true, .slice A' n' c']] w fun e w' => e = .returned (.bool false) ∧ Below w.heap.size w w' := by
  go_enter Try.func52, Try.ntmps52
  go_wp2
  go_ret
  exact ⟨rfl, ((Below.refl _ _).alloc (Nat.le_refl _) _).alloc (by simp) _⟩

theorem same_sign (neg neg' : Bool) (A A' : Option Addr) (n c n' c' : Nat) (w : World) (h : neg ≠ neg') :
    Calls Try.prog 52 #[.agg #[.bool neg, .slice A n c], .agg #[.bool neg', .slice A' n' c']] w fun e w' => e = .returned (.bool false) ∧ Below w.heap.size w w' := by
  cases neg <;> cases neg'
  · exact absurd rfl h
  · exact same_ft A A' n c n' c' w
  · exact same_tf A A' n c n' c' w
  · exact absurd rfl h

set_option maxHeartbeats 1000000 in
theorem same_len (neg : Bool) (A A' : Option Addr) (n c n' c' : Nat) (xs ys : List Nat) (w : World) (h : Sl w w.heap.size A n c xs) (h' : Sl w w.heap.size A' n' c' ys) (hn : n ≠ n') :
    Calls Try.prog 52 #[.agg #[.bool neg, .slice A n c], .agg #[.bool neg, .slice A' n' c']] w fun e w' => e = .returned (.bool false) ∧ Below w.heap.size w w' := by
  have e1 : (neg != neg) = false := by simp
  have e2 : ((n : Int) != (n' : Int)) = true := by simp; omega
  clear hn
  go_enter Try.func52, Try.ntmps52
  go_wp2_with fail
  generalize hW : World.alloc (World.alloc w _) _ = V0
  obtain ⟨hb, ha, hc⟩ := two_boxes neg neg A A' n c n' c' xs ys w V0 h h' hW
  have k0 := ha.bx.c0
  have k1 := ha.bx.c1
  have k2 := hc.bx.c0
  have k3 := hc.bx.c1
  have HB := Lib.hid hb
  clear hW hb h h' ha hc
  go_wp2
  go_ret
  exact ⟨rfl, HB.out⟩

set_option maxHeartbeats 1000000 in
theorem same_lims (neg : Bool) (A A' : Option Addr) (n c c' : Nat) (xs ys : List Nat) (w : World) (h : Sl w w.heap.size A n c xs) (h' : Sl w w.heap.size A' n c' ys) (hne : xs ≠ ys) :
    Calls Try.prog 52 #[.agg #[.bool neg, .slice A n c], .agg #[.bool neg, .slice A' n c']] w fun e w' => e = .returned (.bool false) ∧ Below w.heap.size w w' := by
  have Hl := Lib.hid (And.intro h.len h'.len)
  have Hne := Lib.hid hne
  clear hne
  have hcap := h.cap
  have hreach := h.reach
  have hcap' := h'.cap
  have e1 : (neg != neg) = false := by simp
  have e2 : ((n : Int) != (n : Int)) = false := by simp
  go_enter Try.func52, Try.ntmps52
  go_wp2
  generalize hW : World.alloc (World.alloc w _) _ = W
  obtain ⟨hb, ha, hc⟩ := two_boxes neg neg A A' n c n c' xs ys w W h h' hW
  have hs := ha.sl
  have hs' := hc.sl
  have b0 := ha.bx
  have b1 := hc.bx
  have k1 := b0.c1
  have k3 := b1.c1
  have HB := Lib.hid hb
  clear hW hb ha hc
  go_loopw [5] (fun iv wr => ∃ k q : Nat, k ≤ n ∧ iv = .int .i64 k ∧ wr = W.drewN q ∧ Hid (∀ j, j < k → lim xs j = lim ys j)) (fun iv _ => n - (intOf iv).toNat)
  case atStart => exact ⟨0, 0, by omega, rfl, rfl, fun j hj => by omega⟩
  case round =>
    obtain ⟨k, q, hk, rfl, rfl, Hd⟩ := hrel
    by_cases hkn : k < n
    · obtain ⟨ad, rfl, _, hc1⟩ := hs.cell hkn
      obtain ⟨ad', rfl, _, hc2⟩ := hs'.cell hkn
      by_cases hq : lim xs k = lim ys k
      · have Hq := Lib.hid hq
        have e3 : ((lim xs k : Nat) != ((lim ys k : Nat) : Int)) = false := by simp [hq]
        clear hq
        go_wp2_with fail
        go_quiet (fail)
        go_wp2
        exact ⟨⟨k + 1, _, by omega, by go_num, by first | rfl | (simp only [World.drewN_drewN]; rfl), fun j hj => by
          rcases Nat.lt_or_ge j k with h1 | h1
          · exact Hd j h1
          · rw [show j = k by omega]; exact Hq.out⟩, by simp [intOf]; omega⟩
      · have e3 : ((lim xs k : Nat) != ((lim ys k : Nat) : Int)) = true := by simp; omega
        clear hq
        go_wp2_with fail
        go_quiet (fail)
        go_wp2
        go_ret
        exact ⟨rfl, below_drewN (below_drewN HB.out _) _⟩
    · exact absurd (lims_eq (Hl.out.1.trans Hl.out.2.symm) (fun j hj => Hd j (by have := Hl.out.1; omega))) Hne.out

set_option maxHeartbeats 400000 in
theorem lsame_of (b neg neg' : Bool) (A A' : Option Addr) (n c n' c' : Nat) (xs ys : List Nat) (w : World) (h : Sl w w.heap.size A n c xs) (h' : Sl w w.heap.size A' n' c' ys)
    (hC : ∀ w : World, Sl w w.heap.size A n c xs → Sl w w.heap.size A' n' c' ys → Calls Try.prog 52 #[.agg #[.bool neg, .slice A n c], .agg #[.bool neg', .slice A' n' c']] w fun e w' => e = .returned (.bool b) ∧ Below w.heap.size w w') :
    Calls Try.prog 23 #[.agg #[.bool neg, .slice A n c], .agg #[.bool neg', .slice A' n' c']] w fun e w' => e = .returned (.bool b) ∧ Below w.heap.size w w' := by
  have HC := Lib.hid hC
  clear hC
  go_enter Try.func23, Try.ntmps23
  go_wp2_with fail
  generalize hW : World.alloc (World.alloc w _) _ = V0
  obtain ⟨hb, ha, hc⟩ := two_boxes neg neg' A A' n c n' c' xs ys w V0 h h' hW
  have HB := Lib.hid hb
  clear hW hb h h'
  have k0 := ha.bx.c0
  have k1 := ha.bx.c1
  have k2 := hc.bx.c0
  have k3 := hc.bx.c1
  go_wp2_with fail
  refine (HC.out V0 ha.sl hc.sl).mono ?_
  rintro e w1 ⟨rfl, hb1⟩
  go_wp2
  go_ret
  exact ⟨rfl, below_chain HB.out HB.out.size hb1⟩

/-- Same, of two integers without leading zeros. -/
theorem lsame_any (neg neg' : Bool) (A A' : Option Addr) (n c n' c' : Nat) (xs ys : List Nat) (w : World) (h : Sl w w.heap.size A n c xs) (h' : Sl w w.heap.size A' n' c' ys) :
    Calls Try.prog 23 #[.agg #[.bool neg, .slice A n c], .agg #[.bool neg', .slice A' n' c']] w fun e w' => e = .returned (.bool (decide (neg = neg' ∧ xs = ys))) ∧ Below w.heap.size w w' := by
  by_cases h1 : neg = neg'
  · by_cases h2 : xs = ys
    · rw [decide_eq_true (show neg = neg' ∧ xs = ys from ⟨h1, h2⟩)]
      exact lsame_yes neg neg' A A' n c n' c' xs ys w h h' h1 h2
    · rw [decide_eq_false (show ¬ (neg = neg' ∧ xs = ys) from fun e => h2 e.2)]
      subst h1
      by_cases h3 : n = n'
      · subst h3
        exact lsame_of false neg neg A A' n c n c' xs ys w h h' (fun w h h' => same_lims neg A A' n c c' xs ys w h h' h2)
      · exact lsame_of false neg neg A A' n c n' c' xs ys w h h' (fun w h h' => same_len neg A A' n c n' c' xs ys w h h' h3)
  · rw [decide_eq_false (show ¬ (neg = neg' ∧ xs = ys) from fun e => h1 e.1)]
    exact lsame_of false neg neg' A A' n c n' c' xs ys w h h' (fun w _ _ => same_sign neg neg' A A' n c n' c' w h1)

end Go.Proofs.Ytalgcppogjpilaa
