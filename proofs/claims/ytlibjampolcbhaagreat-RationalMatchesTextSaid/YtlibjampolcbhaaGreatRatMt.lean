/-
  Stage 2: RationalMatchesText, its walk.
-/
import Derived.Test.YtlibjampolcbhaaGreatRatPp
import Derived.Test.YtlibjampolcbhaaGreatRatY
namespace Go.Proofs.YtlibjampolcbhaaGreat
open Go.RowKit
/-- The place of the slash. -/
theorem slash_ex (s : ByteArray) (hs : s.size ≤ 140737488351232) : ∃ K : Nat, (∀ w : World, Calls Tryz.prog 88 #[.string s] w fun e w' => e = .returned (.int .i64 (K : Int)) ∧ Below w.heap.size w w') ∧ K ≤ s.size ∧
    s.extract 0 K = ⟨(Lib.cut s.data.toList [47]).1.toArray⟩ ∧ s.extract (K + 1) s.size = ⟨(Lib.cut s.data.toList [47]).2.1.toArray⟩ ∧ (((Lib.cut s.data.toList [47]).2.2 = false ∧ K = s.size) ∨ ((Lib.cut s.data.toList [47]).2.2 = true ∧ K + 1 ≤ s.size)) := by
  have hsz : s.data.toList.length = s.size := Array.length_toList
  have hx : ∀ (a b : Nat), s.extract a b = ⟨((s.data.toList.take b).drop a).toArray⟩ := by
    intro a b
    apply ByteArray.ext
    apply Array.ext'
    rw [ByteArray.data_extract, Array.toList_extract]
    rw [List.extract_eq_take_drop]
    simp [List.drop_take]
  have hget : ∀ (j : Nat) (h : j < s.size), s.data.toList[j]? = some s[j] := by
    intro j h
    rw [List.getElem?_eq_getElem (by omega)]
    rfl
  by_cases h : (47 : UInt8) ∈ s.data.toList
  · obtain ⟨l, m, e, hn⟩ := List.eq_append_cons_of_mem h
    have c := cut_at (m := m) hn
    rw [← e] at c
    have hl : l.length + 1 ≤ s.size := by rw [← hsz, e, List.length_append, List.length_cons]; omega
    refine ⟨l.length, fun w => slash_run s w l.length (by omega) (fun j hj hk => ?_) (fun hj => ?_) hs, by omega, ?_, ?_, Or.inr ⟨by rw [c], hl⟩⟩
    · have g := hget j hj
      rw [e, List.getElem?_append_left hk] at g
      intro k
      apply hn
      have : s[j] = (47 : UInt8) := UInt8.toNat_inj.1 k
      rw [this] at g
      exact List.mem_of_getElem? g
    · have g := hget _ hj
      rw [e, List.getElem?_append_right (Nat.le_refl _), Nat.sub_self, List.getElem?_cons_zero] at g
      rw [← Option.some.inj g]; rfl
    · rw [hx, c]; simp only [List.drop_zero]; rw [e, List.take_left' rfl]
    · rw [hx, c]; simp only; rw [← hsz, List.take_length, e, show l.length + 1 = (l ++ [47]).length by simp, show l ++ 47 :: m = (l ++ [47]) ++ m by simp, List.drop_left' rfl]
  · have c := cut_none h
    refine ⟨s.size, fun w => slash_run s w s.size (Nat.le_refl _) (fun j hj _ => ?_) (fun hj => absurd hj (Nat.lt_irrefl _)) hs, Nat.le_refl _, ?_, ?_, Or.inl ⟨by rw [c], rfl⟩⟩
    · intro k
      apply h
      have : s[j] = (47 : UInt8) := UInt8.toNat_inj.1 k
      have g := hget j hj
      rw [this] at g
      exact List.mem_of_getElem? g
    · rw [hx, c]; simp only [List.drop_zero]; rw [← hsz, List.take_length]
    · rw [hx, c]; simp only; rw [← hsz, List.take_length, List.drop_of_length_le (by omega)]
theorem rparse_q (s : ByteArray) (w : World) (hs : s.size ≤ 140737488351232) : Calls Tryz.prog 45 #[.string s] w (RetR (rprN s.data.toList) (rprD s.data.toList) (rprE s.data.toList) w) := by
  obtain ⟨K, h1, h2, h3, h4, h5⟩ := slash_ex s hs
  have hc := cut_sizes s.data.toList
  have hsz : s.data.toList.length = s.size := Array.length_toList
  have P : ∀ l : List UInt8, l.length ≤ s.data.toList.length → ∀ w : World, Calls Tryz.prog 89 #[.string ⟨l.toArray⟩] w (RetZE (prZ l) (prE l) w) := fun l hl w =>
    (rparse_ov ⟨l.toArray⟩ w (by show l.toArray.size ≤ _; rw [List.size_toArray]; omega)).mono fun _ _ k => RetIE.ze (prZ_lt l) k
  have P1 := P _ hc.1
  have P2 := P _ hc.2
  have hk := And.intro h1 (And.intro h2 (And.intro hs (And.intro h3 h4)))
  unfold rprN rprD
  by_cases e1 : prE (Lib.cut s.data.toList [47]).1 ≠ 0
  · have e : rprE s.data.toList = prE (Lib.cut s.data.toList [47]).1 := if_pos e1
    rw [e, if_neg e1, if_neg e1]
    exact rparseq_e1 s _ _ w K _ _ hk P1 (by rw [bne_iff_ne]; exact e1)
  · have e1' : prE (Lib.cut s.data.toList [47]).1 = 0 := Decidable.of_not_not e1
    have b1 : (prE (Lib.cut s.data.toList [47]).1 != 0) = false := by rw [e1']; rfl
    rcases h5 with ⟨hf, hK⟩ | ⟨hf, hK⟩
    · have e : rprE s.data.toList = 0 := by unfold rprE; rw [if_neg e1, if_pos hf]
      rw [e, if_pos rfl, if_pos rfl, if_pos hf]
      exact rparseq_n s _ _ w K _ _ hk P1 b1 (by rw [beq_iff_eq]; omega)
    · have hf2 : ((K : Int) == (s.size : Int)) = false ∧ K + 1 ≤ s.size := ⟨by rw [beq_eq_false_iff_ne]; omega, hK⟩
      by_cases e2 : prE (Lib.cut s.data.toList [47]).2.1 ≠ 0
      · have e : rprE s.data.toList = prE (Lib.cut s.data.toList [47]).2.1 := by unfold rprE; rw [if_neg e1, hf, if_neg (by decide), if_pos e2]
        rw [e, if_neg e2, if_neg e2]
        exact rparseq_e2 s _ _ w K _ _ _ _ hk P1 b1 hf2 P2 (by rw [bne_iff_ne]; exact e2)
      · have e2' : prE (Lib.cut s.data.toList [47]).2.1 = 0 := Decidable.of_not_not e2
        have b2 : (prE (Lib.cut s.data.toList [47]).2.1 != 0) = false := by rw [e2']; rfl
        have e0 : rprE s.data.toList = if (rv (some (prZ (Lib.cut s.data.toList [47]).1)) (some (prZ (Lib.cut s.data.toList [47]).2.1))).isSome = true ∧ prZ (Lib.cut s.data.toList [47]).2.1 ≠ 1 then 0 else 3 := by
          unfold rprE; rw [if_neg e1, hf, if_neg (by decide), if_neg e2]
        rcases hv : (rv (some (prZ (Lib.cut s.data.toList [47]).1)) (some (prZ (Lib.cut s.data.toList [47]).2.1))).isSome with _ | _
        · rw [hv] at e0
          rw [if_neg (by simp)] at e0
          rw [e0, if_neg (by decide), if_neg (by decide)]
          exact rparseq_b1 s _ _ w K _ _ _ _ hk P1 b1 hf2 P2 b2 ⟨hv, trivial⟩
        · by_cases ho : prZ (Lib.cut s.data.toList [47]).2.1 = 1
          · rw [if_neg (by simp [ho])] at e0
            rw [e0, if_neg (by decide), if_neg (by decide)]
            exact rparseq_b2 s _ _ w K _ _ _ _ hk P1 b1 hf2 P2 b2 ⟨hv, decide_eq_true ho⟩
          · rw [if_pos ⟨hv, ho⟩] at e0
            rw [e0, if_pos rfl, if_pos rfl, hf, if_neg (by decide)]
            exact rparseq_ok s _ _ w K _ _ _ _ hk P1 b1 hf2 P2 b2 ⟨hv, decide_eq_false ho⟩
theorem text_pair (q : RVal) : ∃ (l : List UInt8) (e : Int), (∀ w : World, q.In w → Calls Tryz.prog 42 #[.agg #[.bool q.g, .slice q.A q.n q.c, .bool q.gd, .slice q.Ad q.nd q.cd]] w (RetTx l e w)) ∧ ∀ w : World, q.In w → Calls Tryz.prog 43 #[.agg #[.bool q.g, .slice q.A q.n q.c, .bool q.gd, .slice q.Ad q.nd q.cd]] w (RetTx l e w) := by
  rcases hv : (rv q.o q.od).isSome with _ | _
  · exact ⟨[], 1, fun w h => text_rbad q w h hv, fun w h => rtextq_bad q w h hv⟩
  · obtain ⟨x, hx⟩ := Option.isSome_iff_exists.1 hv
    exact ⟨_, 0, fun w h => text_q h hx, fun w h => rtextq_q h hx⟩
set_option linter.unusedSimpArgs false in
set_option maxRecDepth 20000 in
set_option maxHeartbeats 2000000 in
theorem mtext_long (p : RVal) (s : ByteArray) (w : World) (ha : p.In w) (hl : decide ((6000 : Int) < (s.size : Int)) = true) :
    Calls Tryz.prog 7 #[.agg #[.bool p.g, .slice p.A p.n p.c, .bool p.gd, .slice p.Ad p.nd p.cd], .string s] w fun e w' => e = .returned (.bool true) ∧ Below w.heap.size w w' := by
  have HL := hI hl
  clear hl
  have Ia_0 := hI ha
  clear ha
  have B_0 : Hid (Below w.heap.size w w) := hI (Below.refl _ _)
  go_enter Tryz.func7, Tryz.ntmps7
  go_wp2_with fail
  generalize hW : World.alloc w _ = W1
  have hn := below_new w (.cells #[.bool p.g, .slice p.A p.n p.c, .bool p.gd, .slice p.Ad p.nd p.cd] 27)
  rw [hW] at hn
  have hx : Rb W1 w.heap.size p := by rw [← hW]; exact Rb.new (q := p) Ia_0.out
  have B_1 := hI (below_chain B_0.out B_0.out.size hn)
  generalize hr : w.heap.size = r at *
  have HRr := hI hr
  clear hr
  have Xa_2 : Hid (Rb W1 r p) := hI hx
  clear hn hx hW B_0 Ia_0
  refine (sane W1).mono ?_
  rintro e w3 ⟨rfl, hb⟩
  have B_3 := hI (bch B_1.out HRr.out hb)
  have Xa_4 := hI (Xa_2.out.on hb)
  clear hb B_1 Xa_2
  have g1 : decide ((6000 : Int) < (s.size : Int)) = true := HL.out
  go_wp2
  go_ret
  exact ⟨rfl, (by rw [HRr.out]; exact B_3.out)⟩
set_option linter.unusedSimpArgs false in
set_option maxRecDepth 20000 in
set_option maxHeartbeats 2000000 in
theorem mtext_run (p : RVal) (s : ByteArray) (w : World) (ha : p.In w) (hl : decide ((6000 : Int) < (s.size : Int)) = false) (l : List UInt8) (et z zd ep : Int) (c0 : (∀ w : World, p.In w → Calls Tryz.prog 42 #[.agg #[.bool p.g, .slice p.A p.n p.c, .bool p.gd, .slice p.Ad p.nd p.cd]] w (RetTx l et w)) ∧ ∀ w : World, p.In w → Calls Tryz.prog 43 #[.agg #[.bool p.g, .slice p.A p.n p.c, .bool p.gd, .slice p.Ad p.nd p.cd]] w (RetTx l et w)) (c1 : (∀ w : World, Calls Tryz.prog 44 #[.string s] w (RetR z zd ep w)) ∧ ∀ w : World, Calls Tryz.prog 45 #[.string s] w (RetR z zd ep w)) (hne : ∀ e : Int, (e == e) = true) :
    Calls Tryz.prog 7 #[.agg #[.bool p.g, .slice p.A p.n p.c, .bool p.gd, .slice p.Ad p.nd p.cd], .string s] w fun e w' => e = .returned (.bool true) ∧ Below w.heap.size w w' := by
  have HL := hI hl
  have C0 := hI c0
  have C1 := hI c1
  have HN := hI hne
  clear hl c0 c1 hne
  have Ia_0 := hI ha
  clear ha
  have B_0 : Hid (Below w.heap.size w w) := hI (Below.refl _ _)
  go_enter Tryz.func7, Tryz.ntmps7
  go_wp2_with fail
  generalize hW : World.alloc w _ = W1
  have hn := below_new w (.cells #[.bool p.g, .slice p.A p.n p.c, .bool p.gd, .slice p.Ad p.nd p.cd] 27)
  rw [hW] at hn
  have hx : Rb W1 w.heap.size p := by rw [← hW]; exact Rb.new (q := p) Ia_0.out
  have B_1 := hI (below_chain B_0.out B_0.out.size hn)
  generalize hr : w.heap.size = r at *
  have HRr := hI hr
  clear hr
  have Xa_2 : Hid (Rb W1 r p) := hI hx
  clear hn hx hW B_0 Ia_0
  refine (sane W1).mono ?_
  rintro e w3 ⟨rfl, hb⟩
  have B_3 := hI (bch B_1.out HRr.out hb)
  have Xa_4 := hI (Xa_2.out.on hb)
  clear hb B_1 Xa_2
  have g1 : decide ((6000 : Int) < (s.size : Int)) = false := HL.out
  obtain ⟨ka0, ka1, ka2, ka3⟩ := Xa_4.out.cs
  have la := Xa_4.out.lt
  go_wp2_with fail
  clear g1
  refine (C0.out.1 w3 Xa_4.out.sl).mono ?_
  clear ka0 ka1 ka2 ka3 la
  rintro e w5 ⟨rfl, hb⟩
  have B_5 := hI (bch B_3.out HRr.out hb)
  have Xa_6 := hI (Xa_4.out.on hb)
  clear hb B_3 Xa_4
  obtain ⟨ka0, ka1, ka2, ka3⟩ := Xa_6.out.cs
  have la := Xa_6.out.lt
  go_wp2_with fail
  refine (C0.out.2 w5 Xa_6.out.sl).mono ?_
  clear ka0 ka1 ka2 ka3 la
  rintro e w7 ⟨rfl, hb⟩
  have B_7 := hI (bch B_5.out HRr.out hb)
  have Xa_8 := hI (Xa_6.out.on hb)
  clear hb B_5 Xa_6
  clear Xa_8
  go_wp2_with fail
  refine (C1.out.1 w7).mono ?_
  rintro e w9 ⟨tk, rfl, hi, hv, hv2, hb⟩
  have B_9 := hI (bch B_7.out HRr.out hb)
  have Ik_10 : Hid (tk.In w9) := hI hi
  clear hb B_7 hi
  have Vk := hI (And.intro hv hv2)
  clear hv hv2
  go_wp2_with fail
  generalize hW : World.alloc w9 _ = W11
  have hn := below_new w9 (.cells #[.bool tk.g, .slice tk.A tk.n tk.c, .bool tk.gd, .slice tk.Ad tk.nd tk.cd] 27)
  rw [hW] at hn
  have hx : Rb W11 w9.heap.size tk := by rw [← hW]; exact Rb.new (q := tk) Ik_10.out
  have B_11 := hI (bch B_9.out HRr.out hn)
  generalize hbb : w9.heap.size = b1 at *
  clear hbb
  have Xk_12 : Hid (Rb W11 b1 tk) := hI hx
  clear hn hx hW B_9 Ik_10
  refine (C1.out.2 W11).mono ?_
  rintro e w13 ⟨tf, rfl, hi, hv, hv2, hb⟩
  have B_13 := hI (bch B_11.out HRr.out hb)
  have Xk_14 := hI (Xk_12.out.on hb)
  have If_15 : Hid (tf.In w13) := hI hi
  clear hb B_11 Xk_12 hi
  have Vf := hI (And.intro hv hv2)
  clear hv hv2
  have q1 := HN.out et
  have q2 := HN.out ep
  obtain ⟨kk0, kk1, kk2, kk3⟩ := (Xk_14.out.on (below_new w13 (.cells #[.bool tf.g, .slice tf.A tf.n tf.c, .bool tf.gd, .slice tf.Ad tf.nd tf.cd] 27))).cs
  have lk := Xk_14.out.lt
  go_wp2_with fail
  generalize hW : World.alloc w13 _ = W16
  have hn := below_new w13 (.cells #[.bool tf.g, .slice tf.A tf.n tf.c, .bool tf.gd, .slice tf.Ad tf.nd tf.cd] 27)
  rw [hW] at hn
  have hx : Rb W16 w13.heap.size tf := by rw [← hW]; exact Rb.new (q := tf) If_15.out
  have hlt : b1 < w13.heap.size := Xk_14.out.lt
  have B_16 := hI (bch B_13.out HRr.out hn)
  have Xk_17 := hI (Xk_14.out.on hn)
  generalize hbb : w13.heap.size = b2 at *
  clear hbb
  have Xf_18 : Hid (Rb W16 b2 tf) := hI hx
  have O18 := hI hlt
  clear hn hx hW hlt B_13 Xk_14 If_15
  refine (same_q _ _ W16 Xk_17.out.sl Xf_18.out.sl _ _ Vk.out.1 Vk.out.2 Vf.out.1 Vf.out.2).mono ?_
  clear kk0 kk1 kk2 kk3 lk
  rintro e w19 ⟨rfl, hb⟩
  have B_19 := hI (bch B_16.out HRr.out hb)
  have Xk_20 := hI (Xk_17.out.on hb)
  have Xf_21 := hI (Xf_18.out.on hb)
  clear hb B_16 Xk_17 Xf_18
  go_wp2
  go_ret
  exact ⟨rfl, (by rw [HRr.out]; exact B_19.out)⟩
theorem rationalMatchesText_any (p : RVal) (s : ByteArray) (w : World) (h : p.In w) (hs : s.size ≤ 140737488351232) :
    Calls Tryz.prog 7 #[.agg #[.bool p.g, .slice p.A p.n p.c, .bool p.gd, .slice p.Ad p.nd p.cd], .string s] w fun e w' => e = .returned (.bool true) ∧ Below w.heap.size w w' := by
  rcases hl : decide ((6000 : Int) < (s.size : Int)) with _ | _
  · obtain ⟨l, et, c0⟩ := text_pair p
    exact mtext_run p s w h hl l et _ _ _ c0 ⟨fun w => parse_r s w hs, fun w => rparse_q s w hs⟩ (fun e => beq_self_eq_true e)
  · exact mtext_long p s w h hl
end Go.Proofs.YtlibjampolcbhaaGreat
