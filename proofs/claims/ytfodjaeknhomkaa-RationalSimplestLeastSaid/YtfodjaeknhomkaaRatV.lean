/-
  Stage 2: a rational number in memory; the program's Valid, in numbers.
-/
import Derived.Test.YtfodjaeknhomkaaRatN
namespace Go.Proofs.Ytfodjaeknhomkaa
open Go.RowKit
/-- A rational's value: the cells of its numerator and of its denominator, and the limbs that they read as. -/
structure RVal where
  g : Bool
  A : Option Addr
  n : Nat
  c : Nat
  xs : List Nat
  gd : Bool
  Ad : Option Addr
  nd : Nat
  cd : Nat
  ys : List Nat
def RVal.In (q : RVal) (w : World) : Prop := Sl w w.heap.size q.A q.n q.c q.xs ∧ Sl w w.heap.size q.Ad q.nd q.cd q.ys
def RVal.o (q : RVal) : Option Int := ov q.g q.xs
def RVal.od (q : RVal) : Option Int := ov q.gd q.ys
theorem RVal.In.on {q : RVal} {w w' : World} (h : q.In w) (hb : Below w.heap.size w w') : q.In w' := ⟨h.1.on hb, h.2.on hb⟩
theorem RVal.In.drew {q : RVal} {w : World} (h : q.In w) : q.In w.drew := ⟨h.1.drew, h.2.drew⟩
theorem RVal.In.drewN {q : RVal} {w : World} (h : q.In w) (k : Nat) : q.In (w.drewN k) := ⟨h.1.drewN k, h.2.drewN k⟩
/-- A rational in a box of its own. -/
structure Rb (w : World) (r : Nat) (q : RVal) : Prop where
  bx : Blk w r 28 #[.bool q.g, .slice q.A q.n q.c, .bool q.gd, .slice q.Ad q.nd q.cd]
  sl : q.In w
section
variable {w w' : World} {r : Nat} {q : RVal}
theorem Rb.on (h : Rb w r q) (hb : Below w.heap.size w w') : Rb w' r q := ⟨Blk.below h.bx hb (Blk.lt h.bx), h.sl.on hb⟩
theorem Rb.c0 (h : Rb w r q) : w.cell? ⟨r, 0, none⟩ = some (.bool q.g) := by rw [Blk.cell h.bx 0]; rfl
theorem Rb.c1 (h : Rb w r q) : w.cell? ⟨r, 1, none⟩ = some (.slice q.A q.n q.c) := by rw [Blk.cell h.bx 1]; rfl
theorem Rb.c2 (h : Rb w r q) : w.cell? ⟨r, 2, none⟩ = some (.bool q.gd) := by rw [Blk.cell h.bx 2]; rfl
theorem Rb.c3 (h : Rb w r q) : w.cell? ⟨r, 3, none⟩ = some (.slice q.Ad q.nd q.cd) := by rw [Blk.cell h.bx 3]; rfl
theorem Rb.f (h : Rb w r q) (i : Nat) : w.frozen? ⟨r, i, none⟩ = false := Blk.frozen h.bx i
theorem Rb.lt (h : Rb w r q) : r < w.heap.size := Blk.lt h.bx
theorem Rb.drew (h : Rb w r q) : Rb w.drew r q := ⟨h.bx, h.sl.drew⟩
theorem Rb.drewN (h : Rb w r q) (k : Nat) : Rb (w.drewN k) r q := ⟨h.bx, h.sl.drewN k⟩
theorem Rb.new (h : q.In w) : Rb (w.alloc (.cells #[.bool q.g, .slice q.A q.n q.c, .bool q.gd, .slice q.Ad q.nd q.cd] 28)) w.heap.size q := ⟨Blk.new w _ _, h.on (below_new _ _)⟩
end
/-- What a function hands back: a rational of numerator z and denominator zd, beside the error number er. -/
def RetR (z zd er : Int) (w : World) (e : Ending) (w' : World) : Prop := ∃ q : RVal, e = .returned (.tuple #[.agg #[.bool q.g, .slice q.A q.n q.c, .bool q.gd, .slice q.Ad q.nd q.cd], .int .i64 er]) ∧ q.In w' ∧ q.o = some z ∧ q.od = some zd ∧ Below w.heap.size w w'
theorem ov_nil : ov false [] = some 0 := rfl
theorem fitE_gcd {a b : Int} (ha : a.natAbs < BIG) (hb : b.natAbs < BIG) : fitE (gcdZ a b) = 0 ∧ fitZ (gcdZ a b) = gcdZ a b := ⟨(fit_yes (gcdZ_lt ha hb)).2, (fit_yes (gcdZ_lt ha hb)).1⟩
theorem rvB_rv {g gd : Bool} {xs ys : List Nat} {nd : Nat} (hx : Ok xs) (hy : Ok ys) (hl : ys.length = nd) : rvB gd nd (ov g xs) (ov gd ys) = (rv (ov g xs) (ov gd ys)).isSome := by
  rcases hb : ov gd ys with _ | b
  · unfold rvB
    rcases ov g xs with _ | a <;> simp [rv, o2E]
  · rcases ha : ov g xs with _ | a
    · unfold rvB; simp [rv, o2E]
    · have hs := ov_sign hb
      have hp := ov_parts hb
      have hg := fitE_gcd (ov_lt hx ha) (ov_lt hy hb)
      show (!gd && !(decide (nd = 0)) && (fitE (gcdZ a b) == 0) && oneB (some (fitZ (gcdZ a b)))) = (if 0 < b ∧ gcdZ a b = 1 then some (Rat.divInt a b) else none).isSome
      rw [hg.1, hg.2]
      have h0 : nd = 0 ↔ b = 0 := by
        constructor
        · intro h
          have : ys = [] := List.eq_nil_of_length_eq_zero (by omega)
          rw [this] at hp
          have := hp.2.1
          simp [val] at this
          omega
        · intro h
          rw [h] at hp
          rcases ys with _ | ⟨y, ys⟩
          · simpa using hl.symm
          · have := val_pos hp.1 (by simp)
            rw [hp.2.1] at this
            simp at this
      have h1 := oneB_iff (some (gcdZ a b))
      by_cases hc : 0 < b ∧ gcdZ a b = 1
      · rw [if_pos hc]
        have e1 : gd = false := by rw [← hs]; simp; omega
        have e2 : decide (nd = 0) = false := by rw [decide_eq_false_iff_not, h0]; omega
        have e3 := h1.2 (by rw [hc.2])
        rw [e1, e2, e3]
        rfl
      · rw [if_neg hc]
        rcases Int.lt_trichotomy b 0 with h | h | h
        · have e1 : gd = true := by rw [← hs]; simpa using h
          rw [e1]; rfl
        · have e2 : decide (nd = 0) = true := by rw [decide_eq_true_iff, h0]; exact h
          rw [e2]; simp
        · have e3 : oneB (some (gcdZ a b)) = false := by
            rcases he : oneB (some (gcdZ a b)) with _ | _
            · rfl
            · have := h1.1 he
              injection this with this
              exact absurd ⟨h, this⟩ hc
          rw [e3]; simp
theorem ratValid_r {q : RVal} {w : World} (h : q.In w) : Calls Try.prog 37 #[.agg #[.bool q.g, .slice q.A q.n q.c, .bool q.gd, .slice q.Ad q.nd q.cd]] w fun e w' => e = .returned (.bool (rv q.o q.od).isSome) ∧ Below w.heap.size w w' := by
  have := ratValid_any q.g q.gd q.A q.Ad q.n q.c q.nd q.cd q.xs q.ys w h.1 h.2
  rwa [rvB_rv h.1.ok h.2.ok h.2.len] at this
end Go.Proofs.Ytfodjaeknhomkaa
