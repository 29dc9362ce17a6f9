/-
  Stage 2: the rational's Valid.
-/
import Derived.Test.YtfodjaeknhomkaaRatA
import Derived.Test.YtfodjaeknhomkaaBaseD
namespace Go.Proofs.Ytfodjaeknhomkaa
open Go.RowKit
/-- What Valid says of a numerator o, a denominator o' whose sign is neg' and whose row has n' limbs. -/
def rvB (neg' : Bool) (n' : Nat) (o o' : Option Int) : Bool := !neg' && !(decide (n' = 0)) && (o2E gcdZ o o' == 0) && oneB (some (o2Z gcdZ o o'))
theorem ratValid_neg (neg : Bool) (A A' : Option Addr) (n c n' c' : Nat) (w : World) :
    Calls Try.prog 37 #[.agg #[.bool neg, .slice A n c, .bool true, .slice A' n' c']] w fun e w' => e = .returned (.bool false) ∧ Below w.heap.size w w' := by
  go_enter Try.func37, Try.ntmps37
  have B := Blk.new w 28 #[.bool neg, .slice A n c, .bool true, .slice A' n' c']
  have k2 : (w.alloc (.cells #[.bool neg, .slice A n c, .bool true, .slice A' n' c'] 28)).cell? ⟨w.heap.size, 2, none⟩ = some (.bool true) := by rw [Blk.cell B 2]; rfl
  clear B
  go_wp2_with fail
  go_ret
  exact ⟨rfl, below_new _ _⟩
theorem ratValid_zero (neg : Bool) (A A' : Option Addr) (n c c' : Nat) (w : World) :
    Calls Try.prog 37 #[.agg #[.bool neg, .slice A n c, .bool false, .slice A' 0 c']] w fun e w' => e = .returned (.bool false) ∧ Below w.heap.size w w' := by
  go_enter Try.func37, Try.ntmps37
  have B := Blk.new w 28 #[.bool neg, .slice A n c, .bool false, .slice A' 0 c']
  have k2 : (w.alloc (.cells #[.bool neg, .slice A n c, .bool false, .slice A' 0 c'] 28)).cell? ⟨w.heap.size, 2, none⟩ = some (.bool false) := by rw [Blk.cell B 2]; rfl
  have k3 : (w.alloc (.cells #[.bool neg, .slice A n c, .bool false, .slice A' 0 c'] 28)).cell? ⟨w.heap.size, 3, none⟩ = some (.slice A' 0 c') := by rw [Blk.cell B 3]; rfl
  clear B
  go_wp2_with fail
  go_ret
  exact ⟨rfl, below_new _ _⟩
theorem ratValid_e (neg : Bool) (A A' : Option Addr) (n c n' c' : Nat) (xs : List Nat) (ys : List Nat) (w : World) (h : Sl w w.heap.size A n c xs) (h' : Sl w w.heap.size A' n' c' ys) (hn : n' ≠ 0) (z e : Int)
    (HG : Hid (∀ w : World, Sl w w.heap.size A n c xs → Sl w w.heap.size A' n' c' ys → Calls Try.prog 66 #[.agg #[.bool neg, .slice A n c], .agg #[.bool false, .slice A' n' c']] w (RetIE z e w))) (he : (e == 0) = false) :
    Calls Try.prog 37 #[.agg #[.bool neg, .slice A n c, .bool false, .slice A' n' c']] w fun e w' => e = .returned (.bool false) ∧ Below w.heap.size w w' := by
  go_enter Try.func37, Try.ntmps37
  have B := Blk.new w 28 #[.bool neg, .slice A n c, .bool false, .slice A' n' c']
  have k0 : (w.alloc (.cells #[.bool neg, .slice A n c, .bool false, .slice A' n' c'] 28)).cell? ⟨w.heap.size, 0, none⟩ = some (.bool neg) := by rw [Blk.cell B 0]; rfl
  have k1 : (w.alloc (.cells #[.bool neg, .slice A n c, .bool false, .slice A' n' c'] 28)).cell? ⟨w.heap.size, 1, none⟩ = some (.slice A n c) := by rw [Blk.cell B 1]; rfl
  have k2 : (w.alloc (.cells #[.bool neg, .slice A n c, .bool false, .slice A' n' c'] 28)).cell? ⟨w.heap.size, 2, none⟩ = some (.bool false) := by rw [Blk.cell B 2]; rfl
  have k3 : (w.alloc (.cells #[.bool neg, .slice A n c, .bool false, .slice A' n' c'] 28)).cell? ⟨w.heap.size, 3, none⟩ = some (.slice A' n' c') := by rw [Blk.cell B 3]; rfl
  clear B
  have hn0 : ((n' : Int) == 0) = false := by rw [beq_eq_false_iff_ne]; omega
  have hn1 : (n' == 0) = false := by rw [beq_eq_false_iff_ne]; exact hn
  have BN := below_new w (.cells #[.bool neg, .slice A n c, .bool false, .slice A' n' c'] 28)
  have hs := Lib.hid (h.on BN)
  have hs' := Lib.hid (h'.on BN)
  have HB := Lib.hid BN
  clear h h' BN
  go_wp2_with fail
  refine (HG.out _ hs.out hs'.out).mono ?_
  rintro e1 w1 ⟨A1, n1, c1, xs1, rfl, hs1, hx1, hv1, hb1⟩
  have HB1 := Lib.hid (below_chain HB.out (by simp) hb1)
  clear k0 k1 k2 k3 hb1
  go_wp2
  go_ret
  exact ⟨rfl, HB1.out.alloc HB1.out.size _⟩
theorem ratValid_one (neg : Bool) (A A' : Option Addr) (n c n' c' : Nat) (xs : List Nat) (ys : List Nat) (w : World) (h : Sl w w.heap.size A n c xs) (h' : Sl w w.heap.size A' n' c' ys) (hn : n' ≠ 0) (z e : Int)
    (HG : Hid (∀ w : World, Sl w w.heap.size A n c xs → Sl w w.heap.size A' n' c' ys → Calls Try.prog 66 #[.agg #[.bool neg, .slice A n c], .agg #[.bool false, .slice A' n' c']] w (RetIE z e w))) (he : e = 0) (hz : z.natAbs < BIG) :
    Calls Try.prog 37 #[.agg #[.bool neg, .slice A n c, .bool false, .slice A' n' c']] w fun e w' => e = .returned (.bool (oneB (some z))) ∧ Below w.heap.size w w' := by
  subst he
  go_enter Try.func37, Try.ntmps37
  have B := Blk.new w 28 #[.bool neg, .slice A n c, .bool false, .slice A' n' c']
  have k0 : (w.alloc (.cells #[.bool neg, .slice A n c, .bool false, .slice A' n' c'] 28)).cell? ⟨w.heap.size, 0, none⟩ = some (.bool neg) := by rw [Blk.cell B 0]; rfl
  have k1 : (w.alloc (.cells #[.bool neg, .slice A n c, .bool false, .slice A' n' c'] 28)).cell? ⟨w.heap.size, 1, none⟩ = some (.slice A n c) := by rw [Blk.cell B 1]; rfl
  have k2 : (w.alloc (.cells #[.bool neg, .slice A n c, .bool false, .slice A' n' c'] 28)).cell? ⟨w.heap.size, 2, none⟩ = some (.bool false) := by rw [Blk.cell B 2]; rfl
  have k3 : (w.alloc (.cells #[.bool neg, .slice A n c, .bool false, .slice A' n' c'] 28)).cell? ⟨w.heap.size, 3, none⟩ = some (.slice A' n' c') := by rw [Blk.cell B 3]; rfl
  clear B
  have hn0 : ((n' : Int) == 0) = false := by rw [beq_eq_false_iff_ne]; omega
  have hn1 : (n' == 0) = false := by rw [beq_eq_false_iff_ne]; exact hn
  have BN := below_new w (.cells #[.bool neg, .slice A n c, .bool false, .slice A' n' c'] 28)
  have hs := Lib.hid (h.on BN)
  have hs' := Lib.hid (h'.on BN)
  have HB := Lib.hid BN
  clear h h' BN
  go_wp2_with fail
  refine (HG.out _ hs.out hs'.out).mono ?_
  rintro e1 w1 ⟨A1, n1, c1, xs1, rfl, hs1, hx1, hv1, hb1⟩
  have HB1 := Lib.hid (below_chain HB.out (by simp) hb1)
  clear k0 k1 k2 k3 hb1
  go_wp2_with fail
  have hov := ov_res hs1.ok hx1 hv1 hz
  have hs2 := hs1.on (below_new w1 (.cells #[.bool (decide (z < 0)), .slice A1 n1 c1] 26))
  have C := isOne_ov (neg := decide (z < 0)) hs2
  rw [hov] at C
  refine C.mono ?_
  rintro e w2 ⟨rfl, hb2⟩
  have HB2 := Lib.hid (below_chain (HB1.out.alloc HB1.out.size (.cells #[.bool (decide (z < 0)), .slice A1 n1 c1] 26)) (by have := HB1.out.size; simp; omega) hb2)
  clear hb2 hs2 C hs1 hx1 hv1
  go_wp2
  go_ret
  exact ⟨rfl, HB2.out⟩
theorem ratValid_any (neg neg' : Bool) (A A' : Option Addr) (n c n' c' : Nat) (xs ys : List Nat) (w : World) (h : Sl w w.heap.size A n c xs) (h' : Sl w w.heap.size A' n' c' ys) :
    Calls Try.prog 37 #[.agg #[.bool neg, .slice A n c, .bool neg', .slice A' n' c']] w fun e w' => e = .returned (.bool (rvB neg' n' (ov neg xs) (ov neg' ys))) ∧ Below w.heap.size w w' := by
  rcases neg' with _ | _
  · by_cases hn : n' = 0
    · subst hn
      exact ratValid_zero neg A A' n c c' w
    · have HG : ∀ w : World, Sl w w.heap.size A n c xs → Sl w w.heap.size A' n' c' ys → Calls Try.prog 66 #[.agg #[.bool neg, .slice A n c], .agg #[.bool false, .slice A' n' c']] w (RetIE (o2Z gcdZ (ov neg xs) (ov false ys)) (o2E gcdZ (ov neg xs) (ov false ys)) w) :=
        fun w h h' => gcd_ov h h'
      have hz := o2Z_lt gcdZ (ov neg xs) (ov false ys)
      have hr : rvB false n' (ov neg xs) (ov false ys) = ((o2E gcdZ (ov neg xs) (ov false ys) == 0) && oneB (some (o2Z gcdZ (ov neg xs) (ov false ys)))) := by
        unfold rvB
        rw [decide_eq_false hn]; rfl
      rw [hr]
      generalize o2Z gcdZ (ov neg xs) (ov false ys) = z at *
      generalize o2E gcdZ (ov neg xs) (ov false ys) = e at *
      rcases he : (e == 0) with _ | _
      · exact ratValid_e neg A A' n c n' c' xs ys w h h' hn z e HG he
      · exact ratValid_one neg A A' n c n' c' xs ys w h h' hn z e HG (eq_of_beq he) hz
  · exact ratValid_neg neg A A' n c n' c' w
end Go.Proofs.Ytfodjaeknhomkaa
