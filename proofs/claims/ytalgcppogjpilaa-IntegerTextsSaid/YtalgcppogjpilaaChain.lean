/-
  Calls on integers that are results of calls: what is handed on from one to the next.
-/
import Derived.Deep.DeepCutAuto
import Derived.Test.YtalgcppogjpilaaLawOrder
import Derived.Test.YtalgcppogjpilaaMulZ
namespace Go.Proofs.Ytalgcppogjpilaa
open Go.RowKit

/-- The integer that a struct stands for, if it is valid. -/
def ov (neg : Bool) (xs : List Nat) : Option Int := if vld neg xs then some (sg neg (val xs)) else none
/-- A call of two integers: its result, and its error. -/
def o2Z (f : Int → Int → Int) : Option Int → Option Int → Int
  | some a, some b => fitZ (f a b)
  | _, _ => 0
def o2E (f : Int → Int → Int) : Option Int → Option Int → Int
  | some a, some b => fitE (f a b)
  | _, _ => 1

theorem o2Z_op (f : Int → Int → Int) (neg neg' : Bool) (xs ys : List Nat) : o2Z f (ov neg xs) (ov neg' ys) = opZ (vld neg xs && vld neg' ys) (f (sg neg (val xs)) (sg neg' (val ys))) := by
  unfold ov
  cases vld neg xs <;> cases vld neg' ys <;> rfl
theorem o2E_op (f : Int → Int → Int) (neg neg' : Bool) (xs ys : List Nat) : o2E f (ov neg xs) (ov neg' ys) = opE (vld neg xs && vld neg' ys) (f (sg neg (val xs)) (sg neg' (val ys))) := by
  unfold ov
  cases vld neg xs <;> cases vld neg' ys <;> rfl
theorem big_gt : 0 < BIG := by unfold BIG; exact pow_pos' _
theorem fitZ_lt (u : Int) : (fitZ u).natAbs < BIG := by
  unfold fitZ
  split
  · assumption
  · exact big_gt
theorem o2Z_lt (f : Int → Int → Int) (o o' : Option Int) : (o2Z f o o').natAbs < BIG := by
  rcases o with _ | a <;> rcases o' with _ | b
  · exact big_gt
  · exact big_gt
  · exact big_gt
  · exact fitZ_lt _
theorem ov_res {z : Int} {xs : List Nat} (hx : Ok xs) (nx : Nz xs) (e : val xs = z.natAbs) (hz : z.natAbs < BIG) : ov (decide (z < 0)) xs = some z := by
  unfold ov
  rw [if_pos (vld_fit hx nx e hz), sg_dec e]
theorem ov_some {neg : Bool} {xs : List Nat} (h : vld neg xs = true) : ov neg xs = some (sg neg (val xs)) := if_pos h
theorem ov_none {neg : Bool} {xs : List Nat} (h : vld neg xs = false) : ov neg xs = none := by unfold ov; rw [h]; rfl

section
variable {neg neg' : Bool} {A A' : Option Addr} {n c n' c' : Nat} {xs ys : List Nat} {w : World}
theorem add_ov (h : Sl w w.heap.size A n c xs) (h' : Sl w w.heap.size A' n' c' ys) :
    Calls Try.prog 25 #[.agg #[.bool neg, .slice A n c], .agg #[.bool neg', .slice A' n' c']] w (RetIE (o2Z (· + ·) (ov neg xs) (ov neg' ys)) (o2E (· + ·) (ov neg xs) (ov neg' ys)) w) := by
  rw [o2Z_op, o2E_op]
  exact add_any neg neg' A A' n c n' c' xs ys w h h'
theorem sub_ov (h : Sl w w.heap.size A n c xs) (h' : Sl w w.heap.size A' n' c' ys) :
    Calls Try.prog 27 #[.agg #[.bool neg, .slice A n c], .agg #[.bool neg', .slice A' n' c']] w (RetIE (o2Z (· - ·) (ov neg xs) (ov neg' ys)) (o2E (· - ·) (ov neg xs) (ov neg' ys)) w) := by
  rw [o2Z_op, o2E_op]
  have := sub_any neg neg' A A' n c n' c' xs ys w h h'
  rwa [sg_not, ← Int.sub_eq_add_neg] at this
theorem mul_ov (h : Sl w w.heap.size A n c xs) (h' : Sl w w.heap.size A' n' c' ys) :
    Calls Try.prog 29 #[.agg #[.bool neg, .slice A n c], .agg #[.bool neg', .slice A' n' c']] w (RetIE (o2Z (· * ·) (ov neg xs) (ov neg' ys)) (o2E (· * ·) (ov neg xs) (ov neg' ys)) w) := by
  rw [o2Z_op, o2E_op]
  exact mul_any neg neg' A A' n c n' c' xs ys w h h'
end

/-- A box is written anew. -/
theorem Ba.stored {w : World} {r : Nat} {neg : Bool} {A A' : Option Addr} {n c n' c' : Nat} {xs xs' : List Nat} (h : Ba w r neg A n c xs) (hs : Sl w w.heap.size A' n' c' xs') (b : Bool) :
    Ba ((w.setCell ⟨r, 0, none⟩ (.bool b)).setCell ⟨r, 1, none⟩ (.slice A' n' c')) r b A' n' c' xs' := by
  refine ⟨?_, hs.ret h.bx b _⟩
  have := Blk.set_ (Blk.set_ h.bx 0 (.bool b)) 1 (.slice A' n' c')
  exact this
theorem Ba.aside {w : World} {r r' : Nat} {neg neg' : Bool} {A A' : Option Addr} {n c n' c' : Nat} {xs xs' : List Nat} (h' : Ba w r' neg' A' n' c' xs') (h : Ba w r neg A n c xs) (hne : r' ≠ r) (b : Bool) (v : Value) :
    Ba ((w.setCell ⟨r, 0, none⟩ (.bool b)).setCell ⟨r, 1, none⟩ v) r' neg' A' n' c' xs' :=
  ⟨Blk.far (Blk.far h'.bx (p := ⟨r, 0, none⟩) hne _) (p := ⟨r, 1, none⟩) hne _, h'.sl.ret h.bx b v⟩

end Go.Proofs.Ytalgcppogjpilaa
