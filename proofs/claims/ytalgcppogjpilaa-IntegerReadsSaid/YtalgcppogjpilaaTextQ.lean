/-
  Text and Parse of the program, for any integer and any string; that they undo each other.
-/
import Derived.Test.YtalgcppogjpilaaTextP
import Derived.Test.YtalgcppogjpilaaParseQ
import Derived.Test.YtalgcppogjpilaaDivZ
namespace Go.Proofs.Ytalgcppogjpilaa
open Go.RowKit

def txB : Option Int → List UInt8
  | none => []
  | some z => decT z
def txE : Option Int → Int
  | none => 1
  | some _ => 0

set_option maxHeartbeats 1000000 in
theorem text_bad (neg : Bool) (A : Option Addr) (n c : Nat) (xs : List Nat) (w : World) (h : Sl w w.heap.size A n c xs) (hv : vld neg xs = false) :
    Calls Try.prog 44 #[.agg #[.bool neg, .slice A n c]] w fun e w' => e = .returned (.tuple #[.string ⟨#[]⟩, .int .i64 1]) ∧ Below w.heap.size w w' := by
  go_enter Try.func44, Try.ntmps44
  go_wp2_with fail
  generalize hW : World.alloc w _ = W
  have hb : Below w.heap.size w W := by subst hW; exact (Below.refl _ _).alloc (Nat.le_refl _) _
  have hs := h.on hb
  clear hW
  refine (valid_any _ _ _ _ _ xs _ hs (Nat.le_refl _)).mono ?_
  rintro e w1 ⟨rfl, hb1⟩
  have HB := Lib.hid (below_chain hb hb.size hb1)
  rw [hv]
  go_wp2
  go_ret2
  exact ⟨rfl, HB.out⟩

set_option maxHeartbeats 1000000 in
theorem text_nil (neg : Bool) (A : Option Addr) (c : Nat) (w : World) (h : Sl w w.heap.size A 0 c []) (hv : vld neg [] = true) :
    Calls Try.prog 44 #[.agg #[.bool neg, .slice A 0 c]] w fun e w' => e = .returned (.tuple #[.string ⟨#[48]⟩, .int .i64 0]) ∧ Below w.heap.size w w' := by
  go_enter Try.func44, Try.ntmps44
  go_wp2_with fail
  generalize hW : World.alloc w _ = W
  have hb : Below w.heap.size w W := by subst hW; exact (Below.refl _ _).alloc (Nat.le_refl _) _
  have b0 : Bx W w.heap.size neg A 0 c := by subst hW; exact Bx.new _ _ _ _ _
  have hs := h.on hb
  clear hW
  refine (valid_any _ _ _ _ _ [] _ hs (Nat.le_refl _)).mono ?_
  rintro e w1 ⟨rfl, hb1⟩
  have HB := Lib.hid (below_chain hb hb.size hb1)
  have b0 := b0.below hb1 b0.lt
  have k0 := b0.c0
  have k1 := b0.c1
  rw [hv]
  go_wp2
  go_ret2
  exact ⟨rfl, HB.out⟩

theorem text_ov {neg : Bool} {A : Option Addr} {n c : Nat} {xs : List Nat} {w : World} (h : Sl w w.heap.size A n c xs) :
    Calls Try.prog 44 #[.agg #[.bool neg, .slice A n c]] w fun e w' => e = .returned (.tuple #[.string ⟨(txB (ov neg xs)).toArray⟩, .int .i64 (txE (ov neg xs))]) ∧ Below w.heap.size w w' := by
  rcases hv : vld neg xs with _ | _
  · rw [ov_none hv]
    exact text_bad neg A n c xs w h hv
  · rw [ov_some hv]
    have hl := h.len
    by_cases h0 : n = 0
    · subst h0
      obtain rfl := List.eq_nil_of_length_eq_zero hl
      have e : sg neg (val []) = 0 := by rw [(vld_true hv).2.2 rfl]; rfl
      rw [e]
      exact text_nil neg A c w h hv
    · have hp : 0 < val xs := val_pos (vld_true hv).2.1 (by rintro rfl; simp at hl; omega)
      have e : txB (some (sg neg (val xs))) = (if neg then [45] else []) ++ dec (val xs) := by
        show decT _ = _
        unfold decT
        cases neg
        · rw [sg_false, if_neg (by omega), if_neg (by omega)]; rfl
        · rw [sg_true, if_neg (by omega), if_pos (by omega), show (-(val xs : Int)).natAbs = val xs by omega]; rfl
      rw [e]
      exact text_good neg A n c xs w h hv (by omega) (val xs) rfl

theorem cut_len (l : List UInt8) : (Lib.trimPrefix l [45]).length ≤ l.length := by
  unfold Lib.trimPrefix
  split
  · rw [List.length_drop]; omega
  · exact Nat.le_refl _

theorem parse_ov (s : ByteArray) (w : World) (hs : s.size ≤ 140737488351232) : Calls Try.prog 46 #[.string s] w (RetIE (prZ s.data.toList) (prE s.data.toList) w) := by
  have hl := cut_len s.data.toList
  have hsz : s.data.toList.length = s.size := by simp
  have C : ∀ w : World, Calls Try.prog 84 #[.string s, .string ⟨#[45]⟩] w fun e w' => e = .returned (.tuple #[.string ⟨(Lib.trimPrefix s.data.toList [45]).toArray⟩, .bool (Lib.hasPrefix s.data.toList [45])]) ∧ w' = w := fun w => Try.strings_CutPrefix s ⟨#[45]⟩ w
  have hd : (⟨(Lib.trimPrefix s.data.toList [45]).toArray⟩ : ByteArray).data.toList = Lib.trimPrefix s.data.toList [45] := rfl
  have hds : (⟨(Lib.trimPrefix s.data.toList [45]).toArray⟩ : ByteArray).size ≤ 140737488351232 := by
    show (Lib.trimPrefix s.data.toList [45]).toArray.size ≤ _
    rw [List.size_toArray]; omega
  unfold prZ prE prs
  generalize (⟨(Lib.trimPrefix s.data.toList [45]).toArray⟩ : ByteArray) = d at *
  rw [← hd]
  generalize Lib.hasPrefix s.data.toList [45] = neg at *
  rcases hc : canon d.data.toList with _ | _
  · exact parse_form s d neg w hds C (.inl hc)
  · by_cases h48 : d.data.toList = [48]
    · cases neg
      · rw [h48]
        have := parse_zero s d w hds C h48
        simpa [sg_false, dnum, fitZ, fitE, big_gt] using this
      · rw [h48]
        exact parse_form s d true w hds C (.inr ⟨hc, rfl, h48⟩)
    · have e : (d.data.toList == [48]) = false := by rw [beq_eq_false_iff_ne]; exact h48
      rw [e, Bool.and_false, Bool.not_false, Bool.and_true, if_pos rfl]
      exact parse_num s d neg w hds C hc h48 _ rfl

theorem has_minus (l : List UInt8) : Lib.hasPrefix (45 :: l) [45] = true ∧ Lib.trimPrefix (45 :: l) [45] = l := by
  have e : Lib.hasPrefix (45 :: l) [45] = true := by simp [Lib.hasPrefix]
  exact ⟨e, by unfold Lib.trimPrefix; rw [if_pos e]; rfl⟩
theorem no_minus {l : List UInt8} (h : l.head? ≠ some 45) : Lib.hasPrefix l [45] = false ∧ Lib.trimPrefix l [45] = l := by
  have e : Lib.hasPrefix l [45] = false := by
    unfold Lib.hasPrefix
    rcases l with _ | ⟨c, l⟩
    · rfl
    · have : c ≠ 45 := fun e => h (by rw [e]; rfl)
      simp only [List.isPrefixOf_cons_cons, Bool.and_eq_false_iff, beq_eq_false_iff_ne]
      exact .inl (fun e => this e.symm)
  exact ⟨e, by unfold Lib.trimPrefix; rw [e]; rfl⟩
theorem minus_or (l : List UInt8) : (∃ t, l = 45 :: t) ∨ l.head? ≠ some 45 := by
  rcases l with _ | ⟨c, l⟩
  · right; simp
  · by_cases h : c = 45
    · left; exact ⟨l, by rw [h]⟩
    · right; simpa using h
theorem canon_dec {N : Nat} (h : N ≠ 0) : canon (dec N) = true ∧ dec N ≠ [48] ∧ (dec N).head? ≠ some 45 := by
  obtain ⟨c, l, e, hc⟩ := dec_head h
  have hd := dec_digits N
  rw [e] at hd ⊢
  refine ⟨canon_good (.inl hc) hd, fun e => hc (by injection e), fun e' => ?_⟩
  have := (isD_iff c).1 (hd c (by simp))
  have e2 : c = 45 := by simpa using e'
  rw [e2] at this
  have h45 : (45 : UInt8).toNat = 45 := rfl
  omega

/-- Parse reads what Text wrote. -/
theorem prs_decT (z : Int) : prs (decT z) = some z := by
  unfold decT
  by_cases h0 : z = 0
  · rw [if_pos h0, h0]; rfl
  · rw [if_neg h0]
    have c := canon_dec (N := z.natAbs) (by omega)
    have e48 : (dec z.natAbs == [48]) = false := by rw [beq_eq_false_iff_ne]; exact c.2.1
    by_cases hn : z < 0
    · rw [if_pos hn]
      have m := has_minus (dec z.natAbs)
      unfold prs
      rw [List.singleton_append, m.1, m.2, c.1, e48, dec_num]
      show some (-((z.natAbs : Nat) : Int)) = some z
      congr 1
      omega
    · rw [if_neg hn, List.nil_append]
      have m := no_minus c.2.2
      unfold prs
      rw [m.1, m.2, c.1, e48, dec_num]
      show some ((z.natAbs : Nat) : Int) = some z
      congr 1
      omega
theorem num_canon {l : List UInt8} (h : canon l = true) (h1 : l ≠ [48]) : dec (dnum l) = l ∧ 0 < dnum l := by
  have hp := head_pos h h1 (m := l.length) (by
    rcases l with _ | ⟨c, t⟩
    · cases h
    · simp)
  rw [List.take_length] at hp
  refine ⟨num_dec (canon_all h) ?_, hp⟩
  rcases l with _ | ⟨c, t⟩
  · simp
  · intro e
    have e2 : c = 48 := by simpa using e
    subst e2
    by_cases ht : t = []
    · exact h1 (by rw [ht])
    · rw [canon_lead ht] at h; cases h
/-- Only the text of an integer is read as it. -/
theorem decT_prs {l : List UInt8} {z : Int} (h : prs l = some z) : decT z = l := by
  unfold prs at h
  split at h
  · rename_i hc
    rw [Bool.and_eq_true] at hc
    injection h with h
    rcases minus_or l with ⟨t, rfl⟩ | hm
    · have m := has_minus t
      rw [m.1, m.2] at h hc
      have ht : t ≠ [48] := by
        rintro rfl
        exact absurd hc.2 (by decide)
      have q := num_canon hc.1 ht
      rw [sg_true] at h
      unfold decT
      rw [if_neg (by omega), if_pos (by omega), show z.natAbs = dnum t by omega, q.1]
      rfl
    · have m := no_minus hm
      rw [m.1, m.2] at h hc
      rw [sg_false] at h
      by_cases h48 : l = [48]
      · subst h48
        have : z = 0 := by rw [← h]; rfl
        rw [this]; rfl
      · have q := num_canon hc.1 h48
        unfold decT
        rw [if_neg (by omega), if_neg (by omega), show z.natAbs = dnum l by omega, q.1]
        rfl
  · cases h

end Go.Proofs.Ytalgcppogjpilaa
