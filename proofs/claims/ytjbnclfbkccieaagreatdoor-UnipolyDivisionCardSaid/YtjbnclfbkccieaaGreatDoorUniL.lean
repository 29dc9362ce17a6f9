/-
  Stage 3: the laws' number, linear, pick and Poly.
-/
import Derived.Maps.AppendAt
import Derived.Laws.Tables
import Derived.Test.YtjbnclfbkccieaaGreatDoorUniS
import Derived.Test.YtjbnclfbkccieaaGreatDoorPolE
import Derived.Test.YtjbnclfbkccieaaGreatDoorRatRb
namespace Go.Proofs.YtjbnclfbkccieaaGreatDoor
open Go.RowKit
/-- A polynomial is handed back. -/
def RetL (l : List Rat) (w : World) (e : Ending) (w' : World) : Prop := ∃ (A : Option Addr) (n c : Nat), e = .returned (.slice A n c) ∧ PV w' A n c l ∧ Below w.heap.size w w'
theorem Mem.newList {w0 w : World} {l : List Rs} (h : Mem w0 w l) (L : List RVal) (hL : ∀ q ∈ L, q.In w) (r : Nat) (hr : w.heap.size = r) : Mem w0 (w.alloc (.cells (qcells L).toArray 27)) (.arr r L :: l) := by
  subst hr
  exact h.push (x := .arr w.heap.size L) (below_new _ _) ⟨Blk.new w _ _, fun q k => (hL q k).on (below_new _ _)⟩ rfl (Nat.le_refl _)
set_option linter.unusedSimpArgs false in
set_option linter.unusedVariables false in
set_option maxRecDepth 20000 in
set_option maxHeartbeats 4000000 in
theorem lnumber_any (n : Int) (w : World) (h1 : -9223372036854775808 ≤ n) (h2 : n ≤ 9223372036854775807) : Calls Tryz.prog 18 #[.int .i64 n] w (RetW (n : Rat) w) := by
  have M := hI ((Mem.nil w).newNil _ rfl)
  have C0 := hI fun W => rof_q n 1 W h1 h2 (by decide) (by decide)
  have E := hI (of_one n)
  clear h1 h2
  go_enter Tryz.func18, Tryz.ntmps18
  go_wp2_with fail
  generalize hW : World.alloc w _ = V at *
  clear hW
  have C := C0.out V
  rw [E.out.1, E.out.2.1, E.out.2.2] at C
  refine C.mono ?_
  clear C C0
  rintro e w1 ⟨t, rfl, ht, hv, hv2, hb⟩
  have M1 := hI ((M.out.on hb).newBox ht _ rfl)
  have HT := hI (show t.v = some (n : Rat) by unfold RVal.v; rw [hv, hv2]; exact rv_of _)
  clear ht hv hv2 hb M
  obtain ⟨f0, f1, f2, f3⟩ := (M1.out.box 1 rfl).fs
  obtain ⟨c0, c1, c2, c3⟩ := (M1.out.box 1 rfl).cs
  obtain ⟨d0, d1, d2, d3⟩ := (M1.out.box 0 rfl).cs
  go_wp2
  clear f0 f1 f2 f3 c0 c1 c2 c3 d0 d1 d2 d3
  generalize hU : World.setCell (World.setCell (World.setCell (World.setCell _ _ _) _ _) _ _) _ _ = U
  have M3 := hI (M1.out.putU 1 rfl (M1.out.box 0 rfl).sl hU)
  clear hU
  obtain ⟨j0, j1, j2, j3⟩ := (M3.out.box 1 rfl).cs
  refine bodyPost_ret (v := .agg #[.bool t.g, .slice t.A t.n t.c, .bool t.gd, .slice t.Ad t.nd t.cd]) (by simp [results, Tryz.results18, go_sem, j0, j1, j2, j3]) rfl ?_
  exact ⟨t, rfl, (M3.out.box 1 rfl).sl, HT.out, M3.out.bel⟩
def lin' (n : Int) : List Rat := [((-n : Int) : Rat), ((1 : Int) : Rat)]
set_option linter.unusedSimpArgs false in
set_option linter.unusedVariables false in
set_option maxRecDepth 20000 in
set_option maxHeartbeats 4000000 in
theorem linear_any (n : Int) (w : World) (h1 : -1000000 ≤ n) (h2 : n ≤ 1000000) : Calls Tryz.prog 40 #[.int .i64 n] w (RetL (lin' n) w) := by
  go_enter Tryz.func40, Tryz.ntmps40
  go_wp2_with fail
  refine (lnumber_any (-n) w (by omega) (by omega)).mono ?_
  rintro e w1 ⟨q1, rfl, hq, hv, hb⟩
  have M1 := hI (((Mem.nil w).on hb).addRat hq)
  have V1 := hI hv
  clear hq hv hb
  go_wp2_with fail
  refine (lnumber_any 1 w1 (by decide) (by decide)).mono ?_
  rintro e w2 ⟨q2, rfl, hq, hv, hb⟩
  have M2 := hI ((M1.out.on hb).addRat hq)
  have V2 := hI hv
  clear hq hv hb M1
  have M3 := hI (M2.out.newList [q1, q2] (fun q k => by
    rcases List.mem_cons.1 k with rfl | k
    · exact M2.out.rat 1 rfl
    · rw [List.mem_singleton.1 k]; exact M2.out.rat 0 rfl) _ rfl)
  go_wp2
  go_ret
  refine ⟨some ⟨w2.heap.size, 0, none⟩, 2, 2, rfl, ⟨[q1, q2], psl_arr (M3.out.arr 0 rfl) (by simp), ?_⟩, M3.out.bel⟩
  exact Vs.cons V1.out (Vs.cons V2.out rfl)
def pk (x n : Int) : Int := (if x < 0 then -(x + 1) else x) % n
theorem pk_lo (x : Int) {n : Int} (h : 0 < n) : 0 ≤ pk x n := Int.emod_nonneg _ (by omega)
theorem pk_hi (x : Int) {n : Int} (h : 0 < n) : pk x n < n := Int.emod_lt_of_pos _ h
theorem pick_any (x n : Int) (w : World) (h1 : -9223372036854775808 ≤ x) (h2 : x ≤ 9223372036854775807) (h3 : 0 < n) (h4 : n ≤ 9223372036854775807) : Calls Tryz.prog 19 #[.int .i64 x, .int .i64 n] w fun e w' => e = .returned (.int .i64 (pk x n)) ∧ w = w' := by
  have hn : ¬ n = 0 := by omega
  by_cases hx : x < 0
  · have hy : 0 ≤ -(x + 1) := by omega
    have hp : pk x n = -(x + 1).tmod n := by unfold pk; rw [if_pos hx, ← Int.tmod_eq_emod_of_nonneg hy, Int.neg_tmod]
    have HP := hI hp
    clear hp
    go_enter Tryz.func19, Tryz.ntmps19
    go_wp2
    go_ret
    exact ⟨by rw [HP.out]; rfl, rfl⟩
  · have hy : 0 ≤ x := by omega
    have hp : pk x n = x % n := by unfold pk; rw [if_neg hx]
    have HP := hI hp
    clear hp
    go_enter Tryz.func19, Tryz.ntmps19
    go_wp2
    go_ret
    exact ⟨by rw [HP.out]; rfl, rfl⟩
/-- A list of rationals that the call makes by append. -/
structure OwnQ (w : World) (base : Nat) (v : Value) (L : List RVal) : Prop where
  own : OwnC w base 27 4 v L.length (qcells L)
  ins : ∀ q ∈ L, q.In w
theorem ownq_psl {w : World} {base : Nat} {v : Value} {L : List RVal} (h : OwnQ w base v L) (hl : L.length ≤ 1000) : ∃ A c, v = .slice A L.length c ∧ PSl w A L.length c L := by
  have ho := h.own.own
  rcases ho.2 with ⟨rfl, h0⟩ | ⟨g, cap, cur, rfl, _, _, hnc, hcap, _⟩
  · have e : L = [] := List.eq_nil_of_length_eq_zero h0
    subst e
    exact ⟨_, _, rfl, PSl.nil _⟩
  · exact ⟨_, _, rfl, ⟨hnc, by omega, by unfold maxLen at hcap; omega, (fun e => by cases e), Reads.of_own ho, h.ins⟩⟩
theorem OwnQ.on {w w' : World} {base : Nat} {v : Value} {L : List RVal} (h : OwnQ w base v L) (hb : Below w.heap.size w w') : OwnQ w' base v L := ⟨h.own.below hb, fun q k => (h.ins q k).on hb⟩
/-- append of one rational. -/
theorem rats_app {w : World} {base : Nat} {v : Value} {L : List RVal} {ops : Array Oper} {rest : List Oper} {o : Oper} {a : Act} {Q : Exit → Act → World → Prop} (hgd : o.guard = none) (s x : Operand)
    (ho : o.op = .call { callee := .builtin .append, args := #[s, x], argTypes := #[22, 22] }) (b : Nat) (q : RVal) (hp : OwnQ w base v L) (hs : a.eval s = v) (hx : a.eval x = .slice (some ⟨b, 0, none⟩) 1 1)
    (hb : Blk w b 27 #[.bool q.g, .slice q.A q.n q.c, .bool q.gd, .slice q.Ad q.nd q.cd]) (hq : q.In w) (hn : L.length ≤ 100000) (hbase : base ≤ w.heap.size)
    (h : ∀ v' w', OwnQ w' base v' (L ++ [q]) → w.grownBy w' v.ownBlock → (∀ g, v.ownBlock = some g → base ≤ g) → wpList Tryz.prog ops Q rest (a.put o.dst v') w') :
    wpList Tryz.prog ops Q (o :: rest) a w := by
  obtain ⟨i0, hi0, hz0, hz1, hz2⟩ := info_parts Rat_info
  have add : ∀ j, (⟨b, 0, none⟩ : Addr).add j = ⟨b, j, none⟩ := fun j => by unfold Addr.add; split <;> simp_all
  obtain ⟨v', w', hr, h2, h3, h4⟩ := run_append_clean (P := Tryz.prog) (w := w) 22 o.type i0 _ 64 Tryz.underlying22 hi0 hz0 hz1 hz2 rfl (by decide) hp.own ⟨b, 0, none⟩ 1 [.bool q.g, .slice q.A q.n q.c, .bool q.gd, .slice q.Ad q.nd q.cd] rfl
    (by
      intro j u hu
      rw [add, Blk.cell hb j, List.getElem?_toArray]
      exact hu)
    (by intro u hu; simp only [List.mem_cons, List.not_mem_nil, or_false] at hu; rcases hu with rfl | rfl | rfl | rfl <;> rfl)
    (by
      intro j hj
      match j, hj with
      | 0, _ => intro k x e; cases e
      | 1, _ => intro k x e; cases e
      | 2, _ => intro k x e; cases e
      | 3, _ => intro k x e; cases e)
    (by intro u hu; simp only [List.mem_cons, List.not_mem_nil, or_false] at hu; rcases hu with rfl | rfl | rfl | rfl <;> (intro k x e; cases e))
    (by unfold maxLen; omega) (by omega) hbase
  refine wpList_plain hgd fun _ hK => ?_
  unfold Oper.wp execOp
  simp only [ho, resolve, invoke, builtin, Sem.run_bind, Sem.run_pure, Result.andThen_ok, List.map_toArray, List.map_cons, List.map_nil, hs, hx, hr]
  refine hK _ _ (h v' w' ⟨?_, ?_⟩ h3 (fun g e => (hp.own.own.lt g e).1))
  · rw [qcells_app, List.length_append]
    exact h2
  · intro y hy
    rcases List.mem_append.1 hy with m | m
    · exact ⟨(hp.ins y m).1.rowC hp.own h3, (hp.ins y m).2.rowC hp.own h3⟩
    · rw [List.mem_singleton] at m
      subst m
      exact ⟨hq.1.rowC hp.own h3, hq.2.rowC hp.own h3⟩
/-- A list of integers in memory. -/
def ISl (w : World) (A : Option Addr) (n c : Nat) (zs : List Int) : Prop := zs.length = n ∧ n ≤ c ∧ c ≤ 9223372036854775807 ∧ (∀ k, k < n → ∃ ad : Addr, A = some ad ∧ ad.block < w.heap.size ∧ w.cell? (ad.add k) = some (.int .i64 (zs.getD k 0))) ∧ ∀ z ∈ zs, -9223372036854775808 ≤ z ∧ z ≤ 9223372036854775807
theorem ISl.on {w w' : World} {A : Option Addr} {n c : Nat} {zs : List Int} (h : ISl w A n c zs) (hb : Below w.heap.size w w') : ISl w' A n c zs :=
  ⟨h.1, h.2.1, h.2.2.1, fun k hk => by
    obtain ⟨ad, e, hl, hc⟩ := h.2.2.2.1 k hk
    exact ⟨ad, e, Nat.lt_of_lt_of_le hl hb.size, by rw [hb.cell (by rw [block_of_add]; exact hl)]; exact hc⟩, h.2.2.2.2⟩
def cofs (zs : List Int) (m : Nat) : List Rat := (zs.take m).map fun z => ((pk z 101 - 50 : Int) : Rat)
/-- The polynomial of a list of integers, as the laws make it. -/
def polyL (zs : List Int) (m : Nat) : List Rat := ptrim (cofs zs m)
theorem cofs_succ {zs : List Int} {k : Nat} (h : k < zs.length) : cofs zs (k + 1) = cofs zs k ++ [((pk (zs.getD k 0) 101 - 50 : Int) : Rat)] := by
  unfold cofs
  rw [List.take_succ_eq_append_getElem h, List.map_append, List.getD_eq_getElem?_getD, List.getElem?_eq_getElem h]
  rfl
theorem cofs_len {zs : List Int} {k : Nat} (h : k ≤ zs.length) : (cofs zs k).length = k := by unfold cofs; rw [List.length_map, List.length_take]; omega
def PyR (w : World) (A : Option Addr) (n c : Nat) (zs : List Int) (k : Nat) (v : Value) (last : Nat) (wr : World) : Prop :=
  Below w.heap.size w wr ∧ ISl wr A n c zs ∧ last = (ptrim (cofs zs k)).length ∧ ∃ L, OwnQ wr w.heap.size v L ∧ Vs L (cofs zs k)
theorem cint_num (c : Int) : ((c : Rat)).num = c := Rat.num_intCast c
theorem ptrim_snoc_len (l : List Rat) (c : Int) : (ptrim (l ++ [(c : Rat)])).length = if c = 0 then (ptrim l).length else l.length + 1 := by
  rw [ptrim_snoc, cint_num]
  split
  · rfl
  · rw [List.length_append]; rfl
set_option linter.unusedSimpArgs false in
set_option linter.unusedVariables false in
set_option maxRecDepth 20000 in
set_option maxHeartbeats 4000000 in
theorem poly_any (A : Option Addr) (n c : Nat) (zs : List Int) (m : Nat) (w : World) (h : ISl w A n c zs) (hm : m ≤ 1000) : Calls Tryz.prog 17 #[.slice A n c, .int .i64 (m : Int)] w (RetL (polyL zs m) w) := by
  have hn := h.2.2.1
  have hnc := h.2.1
  have HIold := hI h
  have H0 := hI (show PyR w A n c zs 0 (.slice none 0 0) 0 w from ⟨Below.refl _ _, h, rfl, [], ⟨OwnC.nil _ _ _ _, fun _ k => (nomatch k)⟩, rfl⟩)
  clear h
  go_enter Tryz.func17, Tryz.ntmps17
  go_wp2_with fail
  go_loopw [7, 5, 6] (fun v x y wr => ∃ k last : Nat, v = .int .i64 k ∧ y = .int .i64 last ∧ k ≤ n ∧ k ≤ m ∧ Hid (PyR w A n c zs k x last wr)) (fun v _ _ _ => n - (intOf v).toNat)
  case atStart => exact ⟨0, 0, rfl, rfl, Nat.zero_le _, Nat.zero_le _, H0⟩
  case round =>
    obtain ⟨k, last, rfl, rfl, hk, hkm, HR1⟩ := hrel
    obtain ⟨v5, hv5⟩ : ∃ x : Value, u5 = x := ⟨_, rfl⟩
    rw [hv5] at HR1
    have HR := hI HR1.out
    clear H0 HR1
    subst hv5
    by_cases hlt : k < n ∧ k < m
    · obtain ⟨hlt, hlm⟩ := hlt
      obtain ⟨L, HL⟩ := HR.out.2.2.2
      have HL := hI HL
      obtain ⟨ad, rfl, _, x0⟩ := HR.out.2.1.2.2.2.1 k hlt
      have HZ := hI (show zs.getD k 0 ∈ zs by rw [List.getD_eq_getElem?_getD, List.getElem?_eq_getElem (by rw [HR.out.2.1.1]; exact hlt)]; exact List.getElem_mem _)
      obtain ⟨z, hz⟩ : ∃ z : Int, zs.getD k 0 = z := ⟨_, rfl⟩
      have hz1 := (HR.out.2.1.2.2.2.2 _ HZ.out).1
      have hz2 := (HR.out.2.1.2.2.2.2 _ HZ.out).2
      rw [hz] at x0 hz1 hz2
      obtain ⟨pc, hpc⟩ : ∃ p : Int, pk z 101 = p := ⟨_, rfl⟩
      have hp1 : 0 ≤ pc := by rw [← hpc]; exact pk_lo z (by decide)
      have hp2 : pc < 101 := by rw [← hpc]; exact pk_hi z (by decide)
      have HPC := hI (And.intro hz hpc)
      have HC := hI (show cofs zs (k + 1) = cofs zs k ++ [((pc - 50 : Int) : Rat)] by rw [cofs_succ (by rw [HR.out.2.1.1]; exact hlt), hz, hpc])
      have HK := hI (cofs_len (zs := zs) (k := k) (by rw [HR.out.2.1.1]; exact hk))
      clear hz
      go_wp2_with fail
      have C := pick_any z 101 wr hz1 hz2 (by decide) (by decide)
      rw [hpc] at C
      refine C.mono ?_
      clear C x0 hpc hz1 hz2
      rintro e w1 ⟨rfl, rfl⟩
      go_wp2_with fail
      refine (lnumber_any (pc - 50) wr (by omega) (by omega)).mono ?_
      rintro e w1 ⟨q, rfl, hq, hv, hb⟩
      have HB := hI (below_chain HR.out.1 HR.out.1.size hb)
      have HI := hI (HR.out.2.1.on hb)
      have HO := hI (HL.out.1.on hb)
      have HQ := hI (And.intro hq hv)
      have hn1 := below_new w1 (.cells #[.bool q.g, .slice q.A q.n q.c, .bool q.gd, .slice q.Ad q.nd q.cd] 27)
      have HO2 := hI (HO.out.on hn1)
      have HQ2 := hI (HQ.out.1.on hn1)
      have HB2 := hI (below_chain HB.out HB.out.size hn1)
      have HI2 := hI (HI.out.on hn1)
      have HN := hI (Blk.new w1 27 #[.bool q.g, .slice q.A q.n q.c, .bool q.gd, .slice q.Ad q.nd q.cd])
      have HLl := hI (show L.length ≤ 100000 by rw [HL.out.2.len, HK.out]; omega)
      have HZ0 := hI HR.out.2.2.1
      clear hq hv hb hn1
      have HCL := hI (show ∀ (v' : Value) (w' : World), OwnQ w' w.heap.size v' (L ++ [q]) → (w1.alloc (.cells #[.bool q.g, .slice q.A q.n q.c, .bool q.gd, .slice q.Ad q.nd q.cd] 27)).grownBy w' u5.ownBlock → (∀ g, u5.ownBlock = some g → w.heap.size ≤ g) → ∀ last', last' = (ptrim (cofs zs (k + 1))).length → PyR w (some ad) n c zs (k + 1) v' last' w' from fun v' w' ho hg hge last' hl => by
        have hbl := HB2.out.grown hg HB2.out.size (fun g e => hge g e)
        refine ⟨hbl, ⟨HI2.out.1, HI2.out.2.1, HI2.out.2.2.1, fun j hj => ?_, HI2.out.2.2.2.2⟩, hl, L ++ [q], ho, ?_⟩
        · obtain ⟨ad', e, h1, h2⟩ := HIold.out.2.2.2.1 j hj
          exact ⟨ad', e, Nat.lt_of_lt_of_le h1 hbl.size, by rw [hbl.cell (by rw [block_of_add]; exact h1)]; exact h2⟩
        · rw [HC.out]
          have h1 := HL.out.2
          have h2 : q.v = some ((pc - 50 : Int) : Rat) := HQ.out.2
          unfold Vs at *
          rw [List.map_append, List.map_append, h1, List.map_singleton, List.map_singleton, h2])
      by_cases hc0 : pc - 50 = 0
      · have hc1 : ((pc - 50) != 0) = false := by rw [hc0]; rfl
        have HE := hI (show last = (ptrim (cofs zs (k + 1))).length by rw [HC.out, ptrim_snoc_len, if_pos hc0]; exact HZ0.out)
        clear hc0
        go_wp2_with (at_builtin; refine rats_app rfl _ _ rfl w1.heap.size q HO2.out rfl rfl HN.out HQ2.out HLl.out HB2.out.size ?_; intro v' w' ho hg hge)
        have HR2 := hI (HCL.out v' w' ho hg hge last HE.out)
        clear ho hg hge
        go_wp2
        go_roundw
        case rel => exact ⟨k + 1, last, by go_num, rfl, by omega, by omega, HR2⟩
        case measure => simp [intOf]; omega
      · have hc1 : ((pc - 50) != 0) = true := by rw [bne_iff_ne]; exact hc0
        have HE := hI (show k + 1 = (ptrim (cofs zs (k + 1))).length by rw [HC.out, ptrim_snoc_len, if_neg hc0, HK.out])
        clear hc0
        go_wp2_with (at_builtin; refine rats_app rfl _ _ rfl w1.heap.size q HO2.out rfl rfl HN.out HQ2.out HLl.out HB2.out.size ?_; intro v' w' ho hg hge)
        have HR2 := hI (HCL.out v' w' ho hg hge (k + 1) HE.out)
        clear ho hg hge
        go_wp2
        go_roundw
        case rel => exact ⟨k + 1, k + 1, by go_num, by go_num, by omega, by omega, HR2⟩
        case measure => simp [intOf]; omega
    · have HC := hI (show cofs zs k = cofs zs m by
        have l := HR.out.2.1.1
        unfold cofs
        rcases Nat.lt_or_ge k n with g | g
        · have e : k = m := by omega
          rw [e]
        · rw [List.take_of_length_le (by omega), List.take_of_length_le (by omega)])
      obtain ⟨L, ho, hv⟩ := HR.out.2.2.2
      have HL0 := hI (show L.length ≤ 1000 by rw [hv.len, cofs_len (by rw [HR.out.2.1.1]; exact hk)]; omega)
      obtain ⟨B, cc, rfl, hp⟩ := ownq_psl ho HL0.out
      have HL := hI (utrim_psl hp hv)
      have HE := hI HR.out.2.2.1
      have h1 : last ≤ cc := by
        have a1 := hp.cap
        have a2 := (utrim_psl hp hv).1.len
        rw [List.length_take] at a2
        have := HE.out
        omega
      have h2 := hp.capr
      have HP := hI hp
      have HB := hI HR.out.1
      clear ho hv hp HR HL0 HIold
      have h3 : L.length ≤ cc := HP.out.cap
      by_cases hd : k < n
      · have hd2 : ¬ k < m := fun g => hlt ⟨hd, g⟩
        clear hlt
        go_wp2
        refine bodyPost_ret (v := .slice B last cc) ?_ rfl ?_
        · simp [results, Tryz.results17, go_sem]
        · refine ⟨B, last, cc, rfl, ?_, HB.out⟩
          rw [HE.out]
          unfold polyL
          rw [← HC.out]
          exact ⟨_, HL.out.1, HL.out.2⟩
      · clear hlt
        go_wp2
        refine bodyPost_ret (v := .slice B last cc) ?_ rfl ?_
        · simp [results, Tryz.results17, go_sem]
        · refine ⟨B, last, cc, rfl, ?_, HB.out⟩
          rw [HE.out]
          unfold polyL
          rw [← HC.out]
          exact ⟨_, HL.out.1, HL.out.2⟩
end Go.Proofs.YtjbnclfbkccieaaGreatDoor
