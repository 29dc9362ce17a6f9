/-
  The walks of Of, of the reference's Of and fit, of Same.
-/
import Derived.Test.YtalgcppogjpilaaApp
import Derived.Test.YtalgcppogjpilaaRef
namespace Go.Proofs.Ytalgcppogjpilaa
open Go.RowKit

theorem wrap_of_neg (n : Int) (h1 : -9223372036854775808 ≤ n) (h2 : n < 0) : IntKind.u64.wrap (-(IntKind.u64.wrap n)) = -n := by
  rw [IntKind.wrap_u64, IntKind.wrap_u64]; omega

set_option maxHeartbeats 1000000 in
theorem of_any (n : Int) (w : World) (h1 : -9223372036854775808 ≤ n) (h2 : n ≤ 9223372036854775807) :
    Calls Try.prog 18 #[.int .i64 n] w (RetI n w) := by
  have Hb := Lib.hid ((Below.refl w.heap.size w).alloc (Nat.le_refl _) (.cells #[.bool false, .slice none 0 0] 24))
  by_cases h0 : n < 0
  · have W := Lib.hid (wrap_of_neg n h1 h0)
    have Hd := Lib.hid (show true = decide (n < 0) by simp; omega)
    go_enter Try.func18, Try.ntmps18
    go_wp2_with fail
    rw [W.out]
    refine (ofWord_any (-n) _ (by omega) (by omega)).mono ?_
    rintro e w1 ⟨A1, n1, c1, xs1, rfl, hs1, hx1, hv1, hb1⟩
    have hbx := (Bx.new w false none 0 0).below hb1 (by simp)
    have hc0 := hbx.c0
    have hc1 := hbx.c1
    have hf0 := hbx.f 0
    have hf1 := hbx.f 1
    have Hbx := Lib.hid hbx
    have Hv := Lib.hid hv1
    clear hv1 hbx
    go_wp2
    exact bodyPost_ret (v := .agg #[.bool true, .slice A1 n1 c1]) (by simp [results, Try.results18, go_sem, hc0, hc1]) rfl
      ⟨A1, n1, c1, xs1, ret_neg Hd.out, hs1.ret Hbx.out _ _, hx1, by rw [Hv.out]; omega, below_ret (below_chain Hb.out (by simp) hb1) (Nat.le_refl _) _ _⟩
  · have h3 : 0 ≤ n := by omega
    have Hd := Lib.hid (show false = decide (n < 0) by simp; omega)
    go_enter Try.func18, Try.ntmps18
    go_wp2_with fail
    refine (ofWord_any n _ (by omega) (by omega)).mono ?_
    rintro e w1 ⟨A1, n1, c1, xs1, rfl, hs1, hx1, hv1, hb1⟩
    have hbx := (Bx.new w false none 0 0).below hb1 (by simp)
    have hc0 := hbx.c0
    have hc1 := hbx.c1
    have hf0 := hbx.f 0
    have hf1 := hbx.f 1
    have Hbx := Lib.hid hbx
    have Hv := Lib.hid hv1
    clear hv1 hbx
    go_wp2
    exact bodyPost_ret (v := .agg #[.bool false, .slice A1 n1 c1]) (by simp [results, Try.results18, go_sem, hc0, hc1]) rfl
      ⟨A1, n1, c1, xs1, ret_neg Hd.out, hs1.ret Hbx.out _ _, hx1, by rw [Hv.out]; omega, below_ret (below_chain Hb.out (by simp) hb1) (Nat.le_refl _) _ _⟩

set_option maxHeartbeats 1000000 in
theorem same_yes (neg neg' : Bool) (A A' : Option Addr) (n c n' c' : Nat) (xs ys : List Nat) (w : World) (h : Sl w w.heap.size A n c xs) (h' : Sl w w.heap.size A' n' c' ys) (hneg : neg = neg') (hxy : xs = ys) :
    Calls Try.prog 52 #[.agg #[.bool neg, .slice A n c], .agg #[.bool neg', .slice A' n' c']] w fun e w' => e = .returned (.bool true) ∧ Below w.heap.size w w' := by
  subst hneg
  subst hxy
  have hn := h.len
  have hn' := h'.len
  obtain rfl : n = n' := by omega
  have hcap := h.cap
  have hreach := h.reach
  clear hn hn'
  have e1 : (neg != neg) = false := by simp
  have e2 : ((n : Int) != (n : Int)) = false := by simp
  go_enter Try.func52, Try.ntmps52
  go_wp2
  generalize hW : World.alloc (World.alloc w _) _ = W
  have hb : Below w.heap.size w W := by subst hW; exact ((Below.refl _ _).alloc (Nat.le_refl _) _).alloc (by simp) _
  have hs := h.on hb
  have hs' := h'.on hb
  have b0 : Bx W w.heap.size neg A n c := by subst hW; exact (Bx.new _ _ _ _ _).alloc _
  have b1 : Bx W (w.heap.size + 1) neg A' n c' := by
    subst hW
    have := Bx.new (w.alloc (.cells #[.bool neg, .slice A n c] 24)) neg A' n c'
    simpa using this
  have k1 := b0.c1
  have k3 := b1.c1
  have HB := Lib.hid hb
  clear hW hb
  go_loopw [5] (fun iv wr => ∃ k q : Nat, k ≤ n ∧ iv = .int .i64 k ∧ wr = W.drewN q) (fun iv _ => n - (intOf iv).toNat)
  case atStart => exact ⟨0, 0, by omega, rfl, rfl⟩
  case round =>
    obtain ⟨k, q, hk, rfl, rfl⟩ := hrel
    by_cases hkn : k < n
    · obtain ⟨ad, rfl, _, hc1⟩ := hs.cell hkn
      obtain ⟨ad', rfl, _, hc2⟩ := hs'.cell hkn
      have e3 : ((lim xs k : Nat) != ((lim xs k : Nat) : Int)) = false := by simp
      go_wp2_with fail
      go_quiet (fail)
      go_wp2
      exact ⟨⟨k + 1, _, by omega, by go_num, by first | rfl | (simp only [World.drewN_drewN]; rfl)⟩, by simp [intOf]; omega⟩
    · go_wp2
      go_ret
      exact ⟨rfl, below_drewN HB.out _⟩

set_option maxHeartbeats 400000 in
theorem lsame_yes (neg neg' : Bool) (A A' : Option Addr) (n c n' c' : Nat) (xs ys : List Nat) (w : World) (h : Sl w w.heap.size A n c xs) (h' : Sl w w.heap.size A' n' c' ys) (hneg : neg = neg') (hxy : xs = ys) :
    Calls Try.prog 23 #[.agg #[.bool neg, .slice A n c], .agg #[.bool neg', .slice A' n' c']] w fun e w' => e = .returned (.bool true) ∧ Below w.heap.size w w' := by
  subst hneg
  subst hxy
  go_enter Try.func23, Try.ntmps23
  go_wp2_with fail
  generalize hW : World.alloc (World.alloc w _) _ = W
  have hb : Below w.heap.size w W := by subst hW; exact ((Below.refl _ _).alloc (Nat.le_refl _) _).alloc (by simp) _
  have hs := h.on hb
  have hs' := h'.on hb
  have HB := Lib.hid hb
  clear hW hb
  refine (same_yes _ _ _ _ _ _ _ _ _ _ _ hs hs' rfl rfl).mono ?_
  rintro e w1 ⟨rfl, hb1⟩
  go_wp2
  go_ret
  exact ⟨rfl, below_chain HB.out HB.out.size hb1⟩

/-- Two trimmed slices of one value hold the same limbs. -/
theorem sl_uniq {w w' : World} {B B' n n' c c' : Nat} {A A' : Option Addr} {xs ys : List Nat} (h : Sl w B A n c xs) (h' : Sl w' B' A' n' c' ys) (nx : Nz xs) (ny : Nz ys) (e : val xs = val ys) : xs = ys := uniq h.ok h'.ok nx ny e

end Go.Proofs.Ytalgcppogjpilaa
