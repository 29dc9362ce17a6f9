/-
  Stage 2: the text of a rational and what Parse reads are inverse to one another.
-/
import Derived.Test.YtlibjampolcbhaaGreatRatP
import Derived.Test.YtlibjampolcbhaaGreatRatL
namespace Go.Proofs.YtlibjampolcbhaaGreat
open Go.RowKit

theorem index_one_none {c : UInt8} : ∀ {l : List UInt8}, c ∉ l → Lib.index l [c] = -1
  | [], _ => rfl
  | b :: l, h => by
    have hb : c ≠ b := by intro e; exact h (by rw [e]; exact List.mem_cons_self)
    have ih := index_one_none (l := l) (fun k => h (List.mem_cons_of_mem _ k))
    unfold Lib.index
    rw [ih]
    simp [hb]
theorem index_one_at {c : UInt8} : ∀ {l m : List UInt8}, c ∉ l → Lib.index (l ++ c :: m) [c] = l.length
  | [], m, _ => by simp [Lib.index]
  | b :: l, m, h => by
    have hb : c ≠ b := by intro e; exact h (by rw [e]; exact List.mem_cons_self)
    have ih := index_one_at (l := l) (m := m) (fun k => h (List.mem_cons_of_mem _ k))
    rw [List.cons_append]
    unfold Lib.index
    rw [ih]
    have hp : (List.isPrefixOf [c] (b :: (l ++ c :: m))) = false := by
      rw [List.isPrefixOf, beq_eq_false_iff_ne.2 hb, Bool.false_and]
    have h2 : ((l.length : Int) == -1) = false := by rw [beq_eq_false_iff_ne]; omega
    rw [hp, h2]
    simp
theorem cut_none {c : UInt8} {l : List UInt8} (h : c ∉ l) : Lib.cut l [c] = (l, [], false) := by
  unfold Lib.cut
  rw [index_one_none h, if_neg (by decide)]
theorem cut_at {c : UInt8} {l m : List UInt8} (h : c ∉ l) : Lib.cut (l ++ c :: m) [c] = (l, m, true) := by
  unfold Lib.cut
  rw [index_one_at h, if_pos (by omega)]
  simp
theorem cut_back (c : UInt8) (s : List UInt8) : ((Lib.cut s [c]).2.2 = true ∧ s = (Lib.cut s [c]).1 ++ c :: (Lib.cut s [c]).2.1) ∨ ((Lib.cut s [c]).2.2 = false ∧ s = (Lib.cut s [c]).1) := by
  by_cases h : c ∈ s
  · obtain ⟨l, m, e, hn⟩ := List.eq_append_cons_of_mem h
    left
    rw [e, cut_at hn]
    exact ⟨rfl, rfl⟩
  · right
    rw [cut_none h]
    exact ⟨rfl, rfl⟩
theorem decT_no47 (z : Int) : (47 : UInt8) ∉ decT z := by
  intro h
  have hd : ∀ N, (47 : UInt8) ∉ dec N := fun N k => by
    have := dec_digits N _ k
    exact absurd this (by decide)
  unfold decT at h
  by_cases h0 : z = 0
  · rw [if_pos h0] at h; revert h; decide
  · rw [if_neg h0] at h
    rcases List.mem_append.1 h with h | h
    · by_cases h1 : z < 0
      · rw [if_pos h1] at h; revert h; decide
      · rw [if_neg h1] at h; revert h; decide
    · exact hd _ h
theorem pr_decT {z : Int} (h : z.natAbs < BIG) : prZ (decT z) = z ∧ prE (decT z) = 0 := by
  unfold prZ prE
  rw [prs_decT]
  exact fit_yes h
theorem pr_back {l : List UInt8} (h : prE l = 0) : decT (prZ l) = l := by
  unfold prZ
  unfold prE at h
  rcases hp : prs l with _ | z
  · rw [hp] at h; exact absurd h (by decide)
  · rw [hp] at h
    have h : fitE z = 0 := h
    show decT (fitZ z) = l
    have : fitZ z = z := by
      rcases fitE_or z with k | k
      · exact k.2.1
      · rw [k] at h; exact absurd h (by decide)
    rw [this]
    exact decT_prs hp
/-- Parse reads what Text wrote. -/
theorem rpr_rtx {x : Rat} (h1 : x.num.natAbs < BIG) (h2 : x.den < BIG) : rprE (rtx x) = 0 ∧ rprN (rtx x) = x.num ∧ rprD (rtx x) = (x.den : Int) := by
  have p1 := pr_decT h1
  have p2 := pr_decT (z := (x.den : Int)) (by rw [Int.natAbs_natCast]; exact h2)
  unfold rprN rprD
  by_cases hd : x.den = 1
  · have e : rtx x = decT x.num := if_pos hd
    have c := cut_none (decT_no47 x.num)
    have e0 : rprE (rtx x) = 0 := by
      unfold rprE
      rw [e, c, if_neg (by simpa using p1.2), if_pos rfl]
    rw [e0, if_pos rfl, if_pos rfl, e, c, if_pos rfl, hd]
    exact ⟨rfl, p1.1, rfl⟩
  · have e : rtx x = decT x.num ++ 47 :: decT (x.den : Int) := if_neg hd
    have c := cut_at (m := decT (x.den : Int)) (decT_no47 x.num)
    have e0 : rprE (rtx x) = 0 := by
      unfold rprE
      rw [e, c, if_neg (by simpa using p1.2), if_neg (by simp), if_neg (by simpa using p2.2), p1.1, p2.1, rv_of x, if_pos ⟨rfl, by omega⟩]
    rw [e0, if_pos rfl, if_pos rfl, e, c, if_neg (by simp)]
    exact ⟨rfl, p1.1, p2.1⟩
/-- Text writes what Parse read. -/
theorem rtx_rpr {l : List UInt8} (h : rprE l = 0) : ∃ y : Rat, rv (some (rprN l)) (some (rprD l)) = some y ∧ rtx y = l := by
  unfold rprN rprD
  rw [if_pos h, if_pos h]
  unfold rprE at h
  by_cases h1 : prE (Lib.cut l [47]).1 ≠ 0
  · rw [if_pos h1] at h; exact absurd h h1
  · rw [if_neg h1] at h
    have b1 := pr_back (Decidable.of_not_not h1)
    rcases cut_back 47 l with ⟨hf, hl⟩ | ⟨hf, hl⟩
    · rw [hf, if_neg (by decide)] at h
      rw [hf, if_neg (by decide)]
      by_cases h2 : prE (Lib.cut l [47]).2.1 ≠ 0
      · rw [if_pos h2] at h; exact absurd h h2
      · rw [if_neg h2] at h
        have b2 := pr_back (Decidable.of_not_not h2)
        by_cases h3 : (rv (some (prZ (Lib.cut l [47]).1)) (some (prZ (Lib.cut l [47]).2.1))).isSome = true ∧ prZ (Lib.cut l [47]).2.1 ≠ 1
        · obtain ⟨y, hy⟩ := Option.isSome_iff_exists.1 h3.1
          refine ⟨y, hy, ?_⟩
          have s := rv_some hy
          have s1 := Option.some.inj s.1
          have s2 := Option.some.inj s.2
          have hd : y.den ≠ 1 := by
            intro k
            rw [k] at s2
            exact h3.2 s2
          unfold rtx
          rw [if_neg hd, ← s1, ← s2, b1, b2]
          exact hl.symm
        · rw [if_neg h3] at h; exact absurd h (by decide)
    · rw [hf, if_pos rfl]
      have hm : rv (some (prZ (Lib.cut l [47]).1)) (some 1) = some (Rat.divInt (prZ (Lib.cut l [47]).1) 1) := if_pos ⟨by decide, by unfold gcdZ; simp⟩
      refine ⟨_, hm, ?_⟩
      have s := rv_some hm
      have s1 := Option.some.inj s.1
      have s2 := Option.some.inj s.2
      unfold rtx
      rw [if_pos (by omega), ← s1, b1]
      exact hl.symm
end Go.Proofs.YtlibjampolcbhaaGreat
