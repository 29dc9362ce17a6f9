/-
  Stage 2: the text of a rational and what Parse reads are inverse to one another.
-/
import Derived.Test.YtlibjampolcbhaaGreatRatP
import Derived.Test.YtlibjampolcbhaaGreatRatL
namespace Go.Proofs.YtlibjampolcbhaaGreat
open Go.RowKit
theorem index_one_none {c : UInt8} : ∀ {l : List UInt8}, c ∉ l → Lib.index l [c] = -1
  | [], _ => rfl
  | b :: l, h => by
    have hb : c ≠ b := by intro e; exact h (by rw [e]; exact List.mem_cons_self)
    have ih := index_one_none (l := l) (fun k => h (List.mem_cons_of_mem _ k))
    unfold Lib.index
    rw [ih]
    simp [hb]
theorem index_one_at {c : UInt8} : ∀ {l m : List UInt8}, c ∉ l → Lib.index (l ++ c :: m) [c] = l.length
  | [], m, _ => by simp [Lib.index]
  | b :: l, m, h => by
    have hb : c ≠ b := by intro e; exact h (by rw [e]; exact List.mem_cons_self)
    have ih := index_one_at (l := l) (m := m) (fun k => h (List.mem_cons_of_mem _ k))
    rw [List.cons_append]
    unfold Lib.index
    rw [ih]
    have hp : (List.isPrefixOf [c] (b :: (l ++ c :: m))) = false := by
      rw [List.isPrefixOf, beq_eq_false_iff_ne.2 hb, Bool.false_and]
    have h2 : ((l.length : Int) == -1) = false := by rw [beq_eq_false_iff_ne]; omega
    rw [hp, h2]
    simp
theorem cut_none {c : UInt8} {l : List UInt8} (h : c ∉ l) : Lib.cut l [c] = (l, [], false) := by
  unfold Lib.cut
  rw [index_one_none h, if_neg (by decide)]
theorem cut_at {c : UInt8} {l m : List UInt8} (h : c ∉ l) : Lib.cut (l ++ c :: m) [c] = (l, m, true) := by
  unfold Lib.cut
  rw [index_one_at h, if_pos (by omega)]
  simp
end Go.Proofs.YtlibjampolcbhaaGreat
