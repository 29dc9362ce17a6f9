/-
 Stage 3: the program's clone of a number; compose beyond the greatest degree. Stage 3: the program's divide. Stage 3: the program's commonDivisor. Stage 3: the program's resultant.
-/
import Derived.Lib.SliceRun
import Derived.Test.YtmncfbfepdbioaaGreatDoorUniLm
import Derived.Test.YtmncfbfepdbioaaGreatDoorPolQ
set_option maxRecDepth 20000
set_option linter.unusedSimpArgs false
set_option maxHeartbeats 4000000
set_option linter.unusedVariables false
namespace Go.Proofs.YtmncfbfepdbioaaGreatDoor
open Go.RowKit
theorem RVal.In.nm {q : RVal} {w : World} (h : q.In w) : Sl w w.heap.size q.A q.n q.c q.xs := h.1
theorem RVal.In.dn {q : RVal} {w : World} (h : q.In w) : Sl w w.heap.size q.Ad q.nd q.cd q.ys := h.2
def RetS (n : Nat) (xs : List Nat) (w : World) (e : Ending) (w' : World) : Prop := ∃ (A : Option Addr) (c : Nat), e = .returned (.slice A n c) /\ Sl w' w'.heap.size A n c xs /\ Below w.heap.size w w'
theorem sclone_any (A : Option Addr) (n c : Nat) (xs : List Nat) (w : World) (h : Sl w w.heap.size A n c xs) : Calls Tryz.prog 193 #[.slice A n c] w (RetS n xs w) := by
 have hnil := fun (w : World) => Lib.run_eql_slice_nil (P := Tryz.prog) w 23 44 A n c 0 0 Tryz.underlying23
 rcases A with _ | ad
 . have hn : n = 0 := by have := h.nil_ rfl; have := h.cap; omega
   subst hn
   have HS := hI h
   clear h
   go_enter Tryz.func193, Tryz.ntmps193
   go_wp2
   go_ret
   have e : xs = [] := List.eq_nil_of_length_eq_zero HS.out.len
   subst e
   exact ⟨none, 0, rfl, Sl.nil _ _, Below.refl _ _⟩
 . have HS := hI (h.on (below_new w (.cells #[] 44)))
   have HB := hI (Blk.new w 44 #[])
   clear h
   go_enter Tryz.func193, Tryz.ntmps193
   go_wp2_with (at_builtin; refine copy_app rfl _ _ rfl w.heap.size n c _ _ xs rfl HB.out rfl HS.out ?_; intro A' c' w' hs' hg')
   go_ret
   exact ⟨A', c', rfl, hs', (below_new w _).grown hg' (by simp) (fun k hk => by injection hk with hk; subst hk; exact Nat.le_refl _)⟩
def RetC1 (g : Bool) (n : Nat) (xs : List Nat) (w : World) (e : Ending) (w' : World) : Prop := ∃ (A : Option Addr) (c : Nat), e = .returned (.agg #[.bool g, .slice A n c]) /\ Sl w' w'.heap.size A n c xs /\ Below w.heap.size w w'
theorem noU2 (g : Bool) (A : Option Addr) (n c : Nat) : NoU #[.bool g, .slice A n c] := by
 intro i v hv x e
 subst e
 rw [List.getElem?_toArray] at hv
 have := List.mem_of_getElem? hv
 simp at this
theorem ucloneInt_any (g : Bool) (A : Option Addr) (n c : Nat) (xs : List Nat) (w : World) (h : Sl w w.heap.size A n c xs) : Calls Tryz.prog 167 #[.agg #[.bool g, .slice A n c]] w (RetC1 g n xs w) := by
 have M := hI ((((Mem.nil w).old (x := .rat ⟨g, A, n, c, xs, false, none, 0, 0, []⟩) (by simp) ⟨h, Sl.nil _ _⟩ rfl).newCel (t := 25) (noU2 g A n c) _ rfl).newCel (t := 25) (noU2 false none 0 0) (w.heap.size + 1) (by simp))
 clear h
 go_enter Tryz.func167, Tryz.ntmps167
 go_wp2_with fail
 generalize hW : World.alloc (World.alloc w _) _ = V at *
 clear hW
 refine anyS_start (fun w' => Mem w w' [.cel (w.heap.size + 1) 25 #[.bool false, .slice none 0 0], .cel w.heap.size 25 #[.bool g, .slice A n c], .rat ⟨g, A, n, c, xs, false, none, 0, 0, []⟩]) [6] 7 (by kernel_rfl) (by kernel_rfl) ?_
 have hS := M.out.drew
 refine anyS_take (v := ?_) 0 (some 3) rfl (by kernel_rfl) (by kernel_rfl) (fun _ _ _ h => h) (by rfl) ?_ hS ?_; rotate_left
 . (intro w' hSw; go_simp; try with_reducible rfl)
 try simp only [Act.put, List.setIfInBounds_toArray, List.set_cons_zero, List.set_cons_succ]
 refine anyS_take (v := ?_) 1 (some 4) rfl (by kernel_rfl) (by kernel_rfl) (fun _ _ _ h => h) (by rfl) ?_ hS ?_; rotate_left
 . (intro w' hSw; have x0 := ((hSw.cel 1 rfl).1.cell 0); have x1 := ((hSw.cel 1 rfl).1.cell 1); simp only [List.getElem?_toArray, List.getElem?_cons_zero, List.getElem?_cons_succ] at x0 x1; go_simp; try with_reducible rfl)
 try simp only [Act.put, List.setIfInBounds_toArray, List.set_cons_zero, List.set_cons_succ]
 refine anyS_take (v := ?_) 2 (some 5) rfl (by kernel_rfl) (by kernel_rfl) (fun _ _ _ h => h) (by rfl) ?_ hS ?_; rotate_left
 . (intro w' hSw; go_simp; try with_reducible rfl)
 try simp only [Act.put, List.setIfInBounds_toArray, List.set_cons_zero, List.set_cons_succ]
 refine anyS_take (v := ?_) 3 (some 6) rfl (by kernel_rfl) (by kernel_rfl) (fun _ _ _ h => h) (by rfl) ?_ hS ?_; rotate_left
 . (intro w' hSw; have x0 := ((hSw.cel 1 rfl).1.cell 0); have x1 := ((hSw.cel 1 rfl).1.cell 1); simp only [List.getElem?_toArray, List.getElem?_cons_zero, List.getElem?_cons_succ] at x0 x1; go_simp; try with_reducible rfl)
 try simp only [Act.put, List.setIfInBounds_toArray, List.set_cons_zero, List.set_cons_succ]
 have M1 := hI hS
 clear hS
 refine anyS_one 4 (by kernel_rfl) rfl (by rfl) (fun KK hKK => ?_)
 go_simp
 (with_reducible refine (sclone_any A n c xs V.drew (M1.out.rat 2 rfl).nm).mono ?_)
 rintro e w1 ⟨A1, c1, rfl, hs, hb⟩
 have M2 := hI (M1.out.on hb)
 have S1 := hI hs
 clear hs hb M1
 refine hKK.out _ _ (Or.inr M2.out) ?_
 clear hKK KK 
 try simp only [Act.put, List.setIfInBounds_toArray, List.set_cons_zero, List.set_cons_succ]
 refine anyS_one 5 (by kernel_rfl) rfl (by rfl) (fun KK hKK => ?_)
 go_simp
 refine hKK.out _ _ (Or.inr M2.out) ?_
 clear hKK KK 
 try simp only [Act.put, List.setIfInBounds_toArray, List.set_cons_zero, List.set_cons_succ]
 have c0 := ((M2.out.cel 0 rfl).1.cell 0)
 have c1' := ((M2.out.cel 0 rfl).1.cell 1)
 have f0 := (M2.out.cel 0 rfl).1.frozen 0
 have f1 := (M2.out.cel 0 rfl).1.frozen 1
 simp only [List.getElem?_toArray, List.getElem?_cons_zero, List.getElem?_cons_succ] at c0 c1'
 refine anyS_one 6 (by kernel_rfl) rfl (by rfl) (fun KK hKK => ?_)
 go_simp
 refine hKK.out _ _ (Or.inl rfl) ?_
 clear hKK KK c0 c1' f0 f1
 refine anyS_done (by kernel_rfl) ?_
 generalize hU : World.setCell (World.setCell w1 _ _) _ _ = U
 have M3 : Hid (Mem w U _) := hI (hU ▸ (((M2.out.addRat (q := ⟨g, A1, n, c1, xs, false, none, 0, 0, []⟩) ⟨S1.out, Sl.nil _ _⟩).putCel 1 rfl 0 (by decide) (nb g)).putCel 1 rfl 1 (by simp) (ns A1 n c1)))
 clear hU M2
 have j0 := ((M3.out.cel 1 rfl).1.cell 0)
 have j1 := ((M3.out.cel 1 rfl).1.cell 1)
 simp at j0 j1
 go_wp2
 refine bodyPost_ret (v := .agg #[.bool g, .slice A1 n c1]) (by simp [results, Tryz.results167, go_sem, j0, j1]) rfl ?_
 exact ⟨A1, c1, rfl, (M3.out.rat 0 rfl).nm, M3.out.bel⟩
theorem uclone_any (q : RVal) (x : Rat) (w : World) (h : q.In w) (hx : q.v = some x) : Calls Tryz.prog 131 #[.agg #[.bool q.g, .slice q.A q.n q.c, .bool q.gd, .slice q.Ad q.nd q.cd]] w (RetW x w) := by
 have M := hI ((((Mem.nil w).old (x := .rat q) (by simp) h rfl).newBox h _ rfl).newNil (w.heap.size + 1) (by simp))
 have HV := hI hx
 clear h hx
 go_enter Tryz.func131, Tryz.ntmps131
 go_wp2_with fail
 generalize hW : World.alloc (World.alloc w _) _ = V at *
 clear hW
 refine anyS_start (fun w' => Mem w w' [.box (w.heap.size + 1) RVal.nil, .box w.heap.size q, .rat q]) [7] 8 (by kernel_rfl) (by kernel_rfl) ?_
 have hS := M.out.drew
 refine anyS_take (v := ?_) 0 (some 3) rfl (by kernel_rfl) (by kernel_rfl) (fun _ _ _ h => h) (by rfl) ?_ hS ?_; rotate_left
 . (intro w' hSw; go_simp; try with_reducible rfl)
 try simp only [Act.put, List.setIfInBounds_toArray, List.set_cons_zero, List.set_cons_succ]
 refine anyS_take (v := ?_) 1 (some 4) rfl (by kernel_rfl) (by kernel_rfl) (fun _ _ _ h => h) (by rfl) ?_ hS ?_; rotate_left
 . (intro w' hSw; obtain ⟨x0, x1, x2, x3⟩ := (hSw.box 1 rfl).cs; go_simp; try with_reducible rfl)
 try simp only [Act.put, List.setIfInBounds_toArray, List.set_cons_zero, List.set_cons_succ]
 refine anyS_take (v := ?_) 3 (some 6) rfl (by kernel_rfl) (by kernel_rfl) (fun _ _ _ h => h) (by rfl) ?_ hS ?_; rotate_left
 . (intro w' hSw; go_simp; try with_reducible rfl)
 try simp only [Act.put, List.setIfInBounds_toArray, List.set_cons_zero, List.set_cons_succ]
 refine anyS_take (v := ?_) 4 (some 7) rfl (by kernel_rfl) (by kernel_rfl) (fun _ _ _ h => h) (by rfl) ?_ hS ?_; rotate_left
 . (intro w' hSw; obtain ⟨x0, x1, x2, x3⟩ := (hSw.box 1 rfl).cs; go_simp; try with_reducible rfl)
 try simp only [Act.put, List.setIfInBounds_toArray, List.set_cons_zero, List.set_cons_succ]
 have M1 := hI hS
 clear hS
 refine anyS_one 2 (by kernel_rfl) rfl (by rfl) (fun KK hKK => ?_)
 go_simp
 (with_reducible refine (ucloneInt_any q.g q.A q.n q.c q.xs V.drew (M1.out.rat 2 rfl).nm).mono ?_)
 rintro e w1 ⟨A1, c1, rfl, hs, hb⟩
 have M2 := hI (M1.out.on hb)
 have S1 := hI hs
 clear hs hb M1
 refine hKK.out _ _ (Or.inr M2.out) ?_
 clear hKK KK 
 try simp only [Act.put, List.setIfInBounds_toArray, List.set_cons_zero, List.set_cons_succ]
 refine anyS_one 5 (by kernel_rfl) rfl (by rfl) (fun KK hKK => ?_)
 go_simp
 (with_reducible refine (ucloneInt_any q.gd q.Ad q.nd q.cd q.ys w1 (M2.out.rat 2 rfl).dn).mono ?_)
 rintro e w2 ⟨A2, c2, rfl, hs, hb⟩
 have M3 := hI ((M2.out.on hb).addRat (q := ⟨q.g, A1, q.n, c1, q.xs, q.gd, A2, q.nd, c2, q.ys⟩) ⟨S1.out.on hb, hs⟩)
 clear hs hb M2
 refine hKK.out _ _ (Or.inr (M3.out.drop 1)) ?_
 clear hKK KK 
 try simp only [Act.put, List.setIfInBounds_toArray, List.set_cons_zero, List.set_cons_succ]
 refine anyS_one 6 (by kernel_rfl) rfl (by rfl) (fun KK hKK => ?_)
 go_simp
 refine hKK.out _ _ (Or.inr (M3.out.drop 1)) ?_
 clear hKK KK 
 try simp only [Act.put, List.setIfInBounds_toArray, List.set_cons_zero, List.set_cons_succ]
 obtain ⟨c0, c1', c2', c3'⟩ := (M3.out.box 1 rfl).cs
 obtain ⟨f0, f1, f2, f3⟩ := (M3.out.box 1 rfl).fs
 refine anyS_one 7 (by kernel_rfl) rfl (by rfl) (fun KK hKK => ?_)
 go_simp
 refine hKK.out _ _ (Or.inl rfl) ?_
 clear hKK KK c0 c1' c2' c3' f0 f1 f2 f3
 refine anyS_done (by kernel_rfl) ?_
 generalize hU : World.setCell (World.setCell (World.setCell (World.setCell w2 _ _) _ _) _ _) _ _ = U
 have M4 := hI (M3.out.putU 1 rfl (M3.out.rat 0 rfl) hU)
 clear hU M3
 obtain ⟨j0, j1, j2, j3⟩ := (M4.out.box 1 rfl).cs
 dsimp only at j0 j1 j2 j3
 go_wp2
 refine bodyPost_ret (v := .agg #[.bool q.g, .slice A1 q.n c1, .bool q.gd, .slice A2 q.nd c2]) (by simp [results, Tryz.results131, go_sem, j0, j1, j2, j3]) rfl ?_
 exact ⟨⟨q.g, A1, q.n, c1, q.xs, q.gd, A2, q.nd, c2, q.ys⟩, rfl, (M4.out.box 1 rfl).sl, HV.out, M4.out.bel⟩
end Go.Proofs.YtmncfbfepdbioaaGreatDoor
namespace Go.Proofs.YtmncfbfepdbioaaGreatDoor
open Go.RowKit
def RetD (l m : List Rat) (w : World) (e : Ending) (w' : World) : Prop := ∃ (A : Option Addr) (n c : Nat) (L : List RVal) (A' : Option Addr) (n' c' : Nat) (L' : List RVal), e = .returned (.agg #[.slice A n c, .slice A' n' c']) /\ PSl w' A n c L /\ Vs L l /\ (∀ ad, A = some ad -> w.heap.size <= ad.block) /\ PSl w' A' n' c' L' /\ Vs L' m /\ (∀ ad, A' = some ad -> w.heap.size <= ad.block) /\ Below w.heap.size w w'
def OutD (r : Except Int (List Rat × List Rat)) (w : World) (e : Ending) (w' : World) : Prop := match r with
 | .ok d => RetD d.1 d.2 w e w'
 | .error er => PanW er w e w'
theorem listO_copy (a : List Rat) : ∀ k, k <= a.length -> listO (fun i => .ok (coef a i)) k = .ok (a.take k)
 | 0, _ => rfl
 | k + 1, h => by
   show thenO (listO _ k) _ = _
   rw [listO_copy a k (by omega)]
   show Except.ok (a.take k ++ [coef a k]) = _
   rw [List.take_succ_eq_append_getElem (show k < a.length by omega)]
   unfold coef
   rw [List.getD_eq_getElem?_getD, List.getElem?_eq_getElem (show k < a.length by omega)]
   rfl
theorem noU2s : NoU #[.slice none 0 0, .slice none 0 0] := by
 intro i v hv x e
 subst e
 rw [List.getElem?_toArray] at hv
 have := List.mem_of_getElem? hv
 simp at this
theorem Vs.set {L : List RVal} {l : List Rat} (h : Vs L l) {k : Nat} {q : RVal} {x : Rat} (hq : q.v = some x) : Vs (L.set k q) (l.set k x) := by
 unfold Vs at *
 rw [List.map_set, List.map_set, h, hq]
theorem Vs.cons {L : List RVal} {l : List Rat} {q : RVal} {x : Rat} (hq : q.v = some x) (h : Vs L l) : Vs (q :: L) (x :: l) := by
 unfold Vs at *
 rw [List.map_cons, List.map_cons, h, hq]
theorem drop_set {L : List RVal} {k : Nat} {q : RVal} (hk : k < L.length) : (L.set k q).drop k = q :: L.drop (k + 1) := by
 rw [List.drop_eq_getElem_cons (by rw [List.length_set]; exact hk), List.getElem_set_self, List.drop_set_of_lt (by omega)]
def DvR (w : World) (tl : List Rs) (b : List Rat) (s0 : List Rat × List Rat) (m rq rr j : Nat) (wr : World) : Prop :=
 ∃ (Q R : List RVal) (s : List Rat × List Rat), Mem w wr (.arr rq Q :: .arr rr R :: tl) /\ Q.length = m /\ Vs (Q.drop (m - j)) s.1 /\ Vs R s.2 /\ s.2.length = s0.2.length /\ stepsO (fun j s => rowO b (m - 1 - j) s) s0 j = .ok s
def DvI (w : World) (tl : List Rs) (b : List Rat) (Q : List RVal) (s : List Rat) (c : Rat) (rq rr k i : Nat) (wr : World) : Prop :=
 ∃ (R : List RVal) (t : List Rat), Mem w wr (.arr rq Q :: .arr rr R :: tl) /\ Vs R t /\ t.length = s.length /\ stepsO (restO b c k) s i = .ok t
theorem udiv_zero (A : Option Addr) (n c : Nat) (A' : Option Addr) (c' : Nat) (w : World) : Calls Tryz.prog 81 #[.slice A n c, .slice A' 0 c'] w (PanW 4 w) := by
 have HB := hI (below_new w (.cells #[.slice none 0 0, .slice none 0 0] 84))
 go_enter Tryz.func81, Tryz.ntmps81
 go_wp2_with fail
 refine (abandon_any 4 _).mono ?_
 rintro e w1 ⟨rfl, hb⟩
 have HB2 := hI (below_chain HB.out HB.out.size hb)
 clear hb
 go_wp2
 exact ⟨rfl, rfl, HB2.out⟩
theorem udiv_go (A : Option Addr) (n c : Nat) (L : List RVal) (a : List Rat) (A' : Option Addr) (n' c' : Nat) (L' : List RVal) (b : List Rat) (w : World) (h : PSl w A n c L) (hv : Vs L a) (h' : PSl w A' n' c' L') (hv' : Vs L' b)
 (hn : n <= 100000) (hn' : n' <= 100000) (h0 : 0 < n') (hl : coef b (b.length - 1) ≠ 0) :
 Calls Tryz.prog 81 #[.slice A n c, .slice A' n' c'] w (OutD (pdivO a b) w) := by
 have HV := hI (And.intro hv hv')
 have HN := hI (show n = a.length /\ n' = b.length from ⟨by rw [<- hv.len, h.len], by rw [<- hv'.len, h'.len]⟩)
 have HL := hI hl
 have hmk := fun w => make_rats w n (by omega)
 have M := hI ((((((Mem.nil w).old (x := .pol A n c L) (by simp) h rfl).old (x := .pol A' n' c' L') (by simp [Rs.own]) h' rfl)).newCel (t := 84) noU2s _ rfl).newRow n (w.heap.size + 1) (by simp))
 obtain ⟨d, hd⟩ : ∃ d : Nat, n' = d + 1 := ⟨n' - 1, by omega⟩
 have hd1 : (n' : Int) - 1 = (d : Int) := by omega
 have h3 : ((n' : Int) == 0) = false := by rw [beq_eq_false_iff_ne]; omega
 have HD := hI hd
 have HBd := hI (show b.length - 1 = d by rw [<- HN.out.2, hd]; rfl)
 have HS := hI (show pdivO a b = thenO (stepsO (fun j s => rowO b (n - d - 1 - j) s) ([], a) (n - d)) fun s => .ok (s.1, ptrim (s.2.take (min d n))) by unfold pdivO; rw [if_neg (by rw [<- HN.out.2]; omega), HBd.out, <- HN.out.1])
 clear h h' hv hv' hl hd
 go_enter Tryz.func81, Tryz.ntmps81
 go_wp2_with fail
 have H0 := hI (show RowR w [.cel w.heap.size 84 #[.slice none 0 0, .slice none 0 0], .pol A' n' c' L', .pol A n c L] (fun i => .ok (coef a i)) n (w.heap.size + 1) 0 ((w.alloc (.cells #[.slice none 0 0, .slice none 0 0] 84)).alloc (.cells (nils n) 27)) from ⟨_, [], M.out, Fill.nil n, rfl⟩)
 clear M hmk
 go_loopw [23] (fun v wr => ∃ k : Nat, v = .int .i64 k /\ k <= n /\ Hid (RowR w [.cel w.heap.size 84 #[.slice none 0 0, .slice none 0 0], .pol A' n' c' L', .pol A n c L] (fun i => .ok (coef a i)) n (w.heap.size + 1) k wr)) (fun v _ => n - (intOf v).toNat)
 case atStart => exact ⟨0, rfl, Nat.zero_le _, H0⟩
 case round =>
  obtain ⟨k, rfl, hk, HR⟩ := hrel
  clear H0
  obtain ⟨R, l, HR⟩ := HR.out
  have HR := hI HR
  by_cases hlt : k < n
  . have HRl := hI (show k < R.length by rw [HR.out.2.1.1]; exact hlt)
    obtain ⟨ad, q, p, rfl, hq, hp⟩ := (HR.out.1.pol 3 rfl).el (k := k) hlt
    have HQ := hI hq
    clear hq
    obtain ⟨x0, x1, x2, x3⟩ := (HR.out.1.pol 3 rfl).c4 rfl HQ.out hp
    go_wp2_with fail
    clear x0 x1 x2 x3
    refine (uclone_any q (coef a k) wr ((HR.out.1.pol 3 rfl).ins q (List.mem_of_getElem? HQ.out)) (HV.out.1.at_ HQ.out)).mono ?_
    rintro e w1 ⟨q1, rfl, hq, hv, hb⟩
    have M1 := hI ((HR.out.1.on hb).addRat hq)
    have V1 := hI hv
    clear hq hv hb
    obtain ⟨⟨c0, c1, c2, c3⟩, f0, f1, f2, f3⟩ := M1.out.rowAt 1 rfl (List.getElem?_eq_getElem HRl.out)
    go_wp2
    clear c0 c1 c2 c3 f0 f1 f2 f3
    generalize hU : World.setCell (World.setCell (World.setCell (World.setCell w1 _ _) _ _) _ _) _ _ = U
    have M9 := hI ((M1.out.putRowU 1 rfl HRl.out (M1.out.rat 0 rfl) hU).drop 1)
    have HR2 := hI (show RowR w [.cel w.heap.size 84 #[.slice none 0 0, .slice none 0 0], .pol A' n' c' L', .pol (some ad) n c L] (fun i => .ok (coef a i)) n (w.heap.size + 1) (k + 1) U from RowR.next M9.out HR.out.2.1 HR.out.2.2 hlt V1.out rfl)
    clear hU M9 M1
    go_roundw
    case rel => exact ⟨k + 1, by go_num, by omega, HR2⟩
    case measure => simp [intOf]; omega
  . have hkm : n = k := by omega
    subst hkm
    obtain ⟨m, hm⟩ : ∃ m : Nat, n - d = m := ⟨_, rfl⟩
    have hmx : max (0 : Int) ((n : Int) - (d : Int)) = (m : Int) := by omega
    have hmk := fun w => make_rats w m (by omega)
    have HP := hI (row_done HR.out.1 HR.out.2.1 HR.out.2.2 (by omega))
    have HE := hI (show l = a by have := listO_copy a n (by rw [HN.out.1]; exact Nat.le_refl _); rw [HR.out.2.2] at this; injection this with this; rw [this, HN.out.1, List.take_length])
    have M := hI (HR.out.1.newRow m _ rfl)
    obtain ⟨rq, hrq⟩ : ∃ r : Nat, wr.heap.size = r := ⟨_, rfl⟩
    rw [hrq] at M
    have HRQ := hI (show w.heap.size <= rq by rw [<- hrq]; exact HR.out.1.bel.size)
    have H0 := hI (show DvR w [.cel w.heap.size 84 #[.slice none 0 0, .slice none 0 0], .pol A' n' c' L', .pol A n c L] b ([], a) m rq (w.heap.size + 1) 0 (wr.alloc (.cells (nils m) 27)) from ⟨_, R, ([], a), M.out, List.length_replicate .., by rw [Nat.sub_zero, List.drop_of_length_le (by rw [List.length_replicate]; exact Nat.le_refl _)]; rfl, by have := HP.out.2; rw [HE.out] at this; exact this, rfl, rfl⟩)
    clear M HP HR
    clear hlt hk
    go_wp2_with fail
    clear hmk hrq hmx
    have HS := hI (HS.out)
    rw [hm] at HS
    have HM := hI hm
    clear hm
    go_loopw [9] (fun v wr => ∃ j : Nat, v = .int .i64 ((m : Int) - 1 - (j : Int)) /\ j <= m /\ Hid (DvR w [.cel w.heap.size 84 #[.slice none 0 0, .slice none 0 0], .pol A' n' c' L', .pol A n c L] b ([], a) m rq (w.heap.size + 1) j wr)) (fun v _ => (intOf v + 1).toNat)
    case atStart => exact ⟨0, by simp, Nat.zero_le _, H0⟩
    case round =>
     obtain ⟨j, rfl, hj, HR⟩ := hrel
     clear H0
     obtain ⟨Q, R, s, HR⟩ := HR.out
     have HR := hI HR
     by_cases hlt : j < m
     . obtain ⟨k, hk⟩ : ∃ k : Nat, m - 1 - j = k := ⟨_, rfl⟩
       have hk1 : (m : Int) - 1 - (j : Int) = (k : Int) := by omega
       have hkd : k + d < n := by have := HM.out; omega
       have hkm : k < m := by omega
       have HK := hI hk
       clear hk
       obtain ⟨ad, qd, pd, rfl, hq, hp⟩ := (HR.out.1.pol 3 rfl).el (k := d) (by have := HD.out; omega)
       have HQd := hI hq
       clear hq
       have HRl := hI (show R.length = n by rw [HR.out.2.2.2.1.len, HR.out.2.2.2.2.1, HN.out.1])
       obtain ⟨qr, hqr⟩ : ∃ q, R[k + d]? = some q := ⟨_, List.getElem?_eq_getElem (by rw [HRl.out]; exact hkd)⟩
       have HQr := hI hqr
       clear hqr
       have hi1 : IntKind.i64.wrap ((k : Int) + (d : Int)) = (k : Int) + (d : Int) := IntWalk.i64_in _ (by omega)
       have hi2 : (0 : Int) <= (k : Int) + (d : Int) := by omega
       have hi3 : (k : Int) + (d : Int) < n := by omega
       have hi4 : ((k : Int) + (d : Int)).toNat = k + d := by omega
       have hi5 : (d : Int) < n' := by have := HD.out; omega
       have hi6 : (k : Int) < m := by omega
       go_wp2_with fail
       refine anyS_start (fun w' => Mem w w' [.arr rq Q, .arr (w.heap.size + 1) R, .cel w.heap.size 84 #[.slice none 0 0, .slice none 0 0], .pol (some ad) n' c' L', .pol A n c L]) [14] 15 (by kernel_rfl) (by kernel_rfl) ?_
       have hS := HR.out.1.drew
       refine anyS_take (v := ?_) 0 (some 48) rfl (by kernel_rfl) (by kernel_rfl) (fun _ _ _ h => h) (by rfl) ?_ hS ?_; rotate_left
       . (intro w' hSw; go_simp; try with_reducible rfl)
       try simp only [Act.put, List.setIfInBounds_toArray, List.set_cons_zero, List.set_cons_succ]
       refine anyS_take (v := ?_) 1 (some 49) rfl (by kernel_rfl) (by kernel_rfl) (fun _ _ _ h => h) (by rfl) ?_ hS ?_; rotate_left
       . (intro w' hSw; go_simp; try with_reducible rfl)
       try simp only [Act.put, List.setIfInBounds_toArray, List.set_cons_zero, List.set_cons_succ]
       refine anyS_take (v := ?_) 2 (some 50) rfl (by kernel_rfl) (by kernel_rfl) (fun _ _ _ h => h) (by rfl) ?_ hS ?_; rotate_left
       . (intro w' hSw; go_simp; try with_reducible rfl)
       try simp only [Act.put, List.setIfInBounds_toArray, List.set_cons_zero, List.set_cons_succ]
       refine anyS_take (v := ?_) 3 (some 51) rfl (by kernel_rfl) (by kernel_rfl) (fun _ _ _ h => h) (by rfl) ?_ hS ?_; rotate_left
       . (intro w' hSw; go_simp; try with_reducible rfl)
       try simp only [Act.put, List.setIfInBounds_toArray, List.set_cons_zero, List.set_cons_succ]
       refine anyS_take (v := ?_) 4 (some 52) rfl (by kernel_rfl) (by kernel_rfl) (fun _ _ _ h => h) (by rfl) ?_ hS ?_; rotate_left
       . (intro w' hSw; go_simp; try with_reducible rfl)
       try simp only [Act.put, List.setIfInBounds_toArray, List.set_cons_zero, List.set_cons_succ]
       refine anyS_take (v := ?_) 5 (some 53) rfl (by kernel_rfl) (by kernel_rfl) (fun _ _ _ h => h) (by rfl) ?_ hS ?_; rotate_left
       . (intro w' hSw; go_simp; try with_reducible rfl)
       try simp only [Act.put, List.setIfInBounds_toArray, List.set_cons_zero, List.set_cons_succ]
       refine anyS_take (v := ?_) 6 (some 54) rfl (by kernel_rfl) (by kernel_rfl) (fun _ _ _ h => h) (by rfl) ?_ hS ?_; rotate_left
       . (intro w' hSw; go_simp; try with_reducible rfl)
       try simp only [Act.put, List.setIfInBounds_toArray, List.set_cons_zero, List.set_cons_succ]
       refine anyS_take (v := ?_) 7 (some 55) rfl (by kernel_rfl) (by kernel_rfl) (fun _ _ _ h => h) (by rfl) ?_ hS ?_; rotate_left
       . (intro w' hSw; obtain ⟨⟨x0, x1, x2, x3⟩, _⟩ := hSw.rowAt 1 rfl HQr.out; go_simp; try with_reducible rfl)
       try simp only [Act.put, List.setIfInBounds_toArray, List.set_cons_zero, List.set_cons_succ]
       refine anyS_take (v := ?_) 8 (some 56) rfl (by kernel_rfl) (by kernel_rfl) (fun _ _ _ h => h) (by rfl) ?_ hS ?_; rotate_left
       . (intro w' hSw; go_simp; try with_reducible rfl)
       try simp only [Act.put, List.setIfInBounds_toArray, List.set_cons_zero, List.set_cons_succ]
       refine anyS_take (v := ?_) 9 (some 57) rfl (by kernel_rfl) (by kernel_rfl) (fun _ _ _ h => h) (by rfl) ?_ hS ?_; rotate_left
       . (intro w' hSw; go_simp; try with_reducible rfl)
       try simp only [Act.put, List.setIfInBounds_toArray, List.set_cons_zero, List.set_cons_succ]
       refine anyS_take (v := ?_) 10 (some 58) rfl (by kernel_rfl) (by kernel_rfl) (fun _ _ _ h => h) (by rfl) ?_ hS ?_; rotate_left
       . (intro w' hSw; go_simp; try with_reducible rfl)
       try simp only [Act.put, List.setIfInBounds_toArray, List.set_cons_zero, List.set_cons_succ]
       refine anyS_take (v := ?_) 11 (some 59) rfl (by kernel_rfl) (by kernel_rfl) (fun _ _ _ h => h) (by rfl) ?_ hS ?_; rotate_left
       . (intro w' hSw; obtain ⟨x0, x1, x2, x3⟩ := (hSw.pol 3 rfl).c4 rfl HQd.out hp; go_simp; try with_reducible rfl)
       try simp only [Act.put, List.setIfInBounds_toArray, List.set_cons_zero, List.set_cons_succ]
       have M1 := hI hS
       clear hS
       have HLd := hI (show coef b d ≠ 0 by have := HL.out; rw [<- HN.out.2, HD.out] at this; exact this)
       refine anyS_one 12 (by kernel_rfl) rfl (by rfl) (fun KK hKK => ?_)
       go_simp
       have C := uquotient_any qr qd (coef s.2 (k + d)) (coef b d) wr.drew ((M1.out.arr 1 rfl).2 qr (List.mem_of_getElem? HQr.out)) ((M1.out.pol 3 rfl).ins qd (List.mem_of_getElem? HQd.out)) (HR.out.2.2.2.1.at_ HQr.out) (HV.out.2.at_ HQd.out) HLd.out
       rcases hz : divO (coef s.2 (k + d)) (coef b d) with er | cc
       . rw [hz] at C
         (with_reducible refine C.mono ?_)
         clear C
         rintro e wE ⟨rfl, hb⟩
         have HB := hI (M1.out.on hb).bel
         have HE := hI (show pdivO a b = .error er from by rw [HS.out, stepsO_err (e := er) _ _ (show j + 1 <= m by omega) (by rw [stepsO_succ, HR.out.2.2.2.2.2]; show rowO b (m - 1 - j) s = _; unfold rowO; rw [HK.out, HBd.out]; exact thenO_err hz _)]; rfl)
         clear hb hz
         go_wp2
         exact ⟨rfl, by rw [HE.out]; exact ⟨rfl, HB.out⟩⟩
       . rw [hz] at C
         (with_reducible refine C.mono ?_)
         clear C
         rintro e w2 ⟨qc, rfl, hq, hv, hb⟩
         have Vc := hI (And.intro hv hz)
         have M2 := hI ((M1.out.on hb).addRat hq)
         clear hq hv hb hz M1
         refine hKK.out _ _ (Or.inr (M2.out.drop 1)) ?_
         clear hKK KK 
         try simp only [Act.put, List.setIfInBounds_toArray, List.set_cons_zero, List.set_cons_succ]
         have HQl := hI (show k < Q.length by rw [HR.out.2.1]; exact hkm)
         obtain ⟨⟨c0, c1, c2, c3⟩, f0, f1, f2, f3⟩ := M2.out.rowAt 1 rfl (List.getElem?_eq_getElem HQl.out)
         refine anyS_one 13 (by kernel_rfl) rfl (by rfl) (fun KK hKK => ?_)
         go_simp
         refine hKK.out _ _ (Or.inr (M2.out.drop 1)) ?_
         clear hKK KK 
         try simp only [Act.put, List.setIfInBounds_toArray, List.set_cons_zero, List.set_cons_succ]
         refine anyS_one 14 (by kernel_rfl) rfl (by rfl) (fun KK hKK => ?_)
         go_simp
         refine hKK.out _ _ (Or.inl rfl) ?_
         clear hKK KK c0 c1 c2 c3 f0 f1 f2 f3
         refine anyS_done (by kernel_rfl) ?_
         generalize hU : World.setCell (World.setCell (World.setCell (World.setCell w2 _ _) _ _) _ _) _ _ = U
         have M3 := hI ((M2.out.putRowU 1 rfl HQl.out (M2.out.rat 0 rfl) hU).drop 1)
         have H1 := hI (show DvI w [.cel w.heap.size 84 #[.slice none 0 0, .slice none 0 0], .pol (some ad) n' c' L', .pol A n c L] b (Q.set k qc) s.2 cc rq (w.heap.size + 1) k 0 U from ⟨R, s.2, M3.out, HR.out.2.2.2.1, rfl, rfl⟩)
         clear hU M3 M2
         clear hp hi1 hi2 hi3 hi4 hi5 hi6
         go_wp2_with fail
         go_loopw [63] (fun v wr => ∃ i : Nat, v = .int .i64 i /\ i <= d /\ Hid (DvI w [.cel w.heap.size 84 #[.slice none 0 0, .slice none 0 0], .pol (some ad) n' c' L', .pol A n c L] b (Q.set k qc) s.2 cc rq (w.heap.size + 1) k i wr)) (fun v _ => d - (intOf v).toNat)
         case atStart => exact ⟨0, rfl, Nat.zero_le _, H1⟩
         case round =>
          obtain ⟨i, rfl, hi, HI⟩ := hrel
          clear H1
          obtain ⟨R1, t, HI⟩ := HI.out
          have HI := hI HI
          by_cases hlt2 : i < d
          . obtain ⟨ad2, qi, pi, e2, hq, hp⟩ := (HI.out.1.pol 3 rfl).el (k := i) (by have := HD.out; omega)
            injection e2 with e2
            subst e2
            have HQi := hI hq
            clear hq
            have HR1l := hI (show R1.length = n by rw [HI.out.2.1.len, HI.out.2.2.1, <- HR.out.2.2.2.1.len, HRl.out])
            have HRi := hI (show k + i < R1.length by rw [HR1l.out]; omega)
            obtain ⟨qr2, hqr⟩ : ∃ q, R1[k + i]? = some q := ⟨_, List.getElem?_eq_getElem HRi.out⟩
            have HQr2 := hI hqr
            clear hqr
            have HQk := hI (show (Q.set k qc)[k]? = some qc from List.getElem?_set_self HQl.out)
            have hi1 : IntKind.i64.wrap ((k : Int) + (i : Int)) = (k : Int) + (i : Int) := IntWalk.i64_in _ (by omega)
            have hi2 : (0 : Int) <= (k : Int) + (i : Int) := by omega
            have hi3 : (k : Int) + (i : Int) < n := by omega
            have hi4 : ((k : Int) + (i : Int)).toNat = k + i := by omega
            have hi5 : (i : Int) < n' := by have := HD.out; omega
            have hi6 : (k : Int) < m := by omega
            go_wp2_with fail
            refine anyS_start (fun w' => Mem w w' [.arr rq (Q.set k qc), .arr (w.heap.size + 1) R1, .cel w.heap.size 84 #[.slice none 0 0, .slice none 0 0], .pol (some ad) n' c' L', .pol A n c L]) [21] 22 (by kernel_rfl) (by kernel_rfl) ?_
            have hS := HI.out.1.drew
            refine anyS_take (v := ?_) 0 (some 66) rfl (by kernel_rfl) (by kernel_rfl) (fun _ _ _ h => h) (by rfl) ?_ hS ?_; rotate_left
            . (intro w' hSw; go_simp; try with_reducible rfl)
            try simp only [Act.put, List.setIfInBounds_toArray, List.set_cons_zero, List.set_cons_succ]
            refine anyS_take (v := ?_) 1 (some 67) rfl (by kernel_rfl) (by kernel_rfl) (fun _ _ _ h => h) (by rfl) ?_ hS ?_; rotate_left
            . (intro w' hSw; go_simp; try with_reducible rfl)
            try simp only [Act.put, List.setIfInBounds_toArray, List.set_cons_zero, List.set_cons_succ]
            refine anyS_take (v := ?_) 2 (some 68) rfl (by kernel_rfl) (by kernel_rfl) (fun _ _ _ h => h) (by rfl) ?_ hS ?_; rotate_left
            . (intro w' hSw; go_simp; try with_reducible rfl)
            try simp only [Act.put, List.setIfInBounds_toArray, List.set_cons_zero, List.set_cons_succ]
            refine anyS_take (v := ?_) 3 (some 69) rfl (by kernel_rfl) (by kernel_rfl) (fun _ _ _ h => h) (by rfl) ?_ hS ?_; rotate_left
            . (intro w' hSw; go_simp; try with_reducible rfl)
            try simp only [Act.put, List.setIfInBounds_toArray, List.set_cons_zero, List.set_cons_succ]
            refine anyS_take (v := ?_) 4 (some 70) rfl (by kernel_rfl) (by kernel_rfl) (fun _ _ _ h => h) (by rfl) ?_ hS ?_; rotate_left
            . (intro w' hSw; go_simp; try with_reducible rfl)
            try simp only [Act.put, List.setIfInBounds_toArray, List.set_cons_zero, List.set_cons_succ]
            refine anyS_take (v := ?_) 5 (some 71) rfl (by kernel_rfl) (by kernel_rfl) (fun _ _ _ h => h) (by rfl) ?_ hS ?_; rotate_left
            . (intro w' hSw; go_simp; try with_reducible rfl)
            try simp only [Act.put, List.setIfInBounds_toArray, List.set_cons_zero, List.set_cons_succ]
            refine anyS_take (v := ?_) 6 (some 72) rfl (by kernel_rfl) (by kernel_rfl) (fun _ _ _ h => h) (by rfl) ?_ hS ?_; rotate_left
            . (intro w' hSw; go_simp; try with_reducible rfl)
            try simp only [Act.put, List.setIfInBounds_toArray, List.set_cons_zero, List.set_cons_succ]
            refine anyS_take (v := ?_) 7 (some 73) rfl (by kernel_rfl) (by kernel_rfl) (fun _ _ _ h => h) (by rfl) ?_ hS ?_; rotate_left
            . (intro w' hSw; go_simp; try with_reducible rfl)
            try simp only [Act.put, List.setIfInBounds_toArray, List.set_cons_zero, List.set_cons_succ]
            refine anyS_take (v := ?_) 8 (some 74) rfl (by kernel_rfl) (by kernel_rfl) (fun _ _ _ h => h) (by rfl) ?_ hS ?_; rotate_left
            . (intro w' hSw; go_simp; try with_reducible rfl)
            try simp only [Act.put, List.setIfInBounds_toArray, List.set_cons_zero, List.set_cons_succ]
            refine anyS_take (v := ?_) 9 (some 75) rfl (by kernel_rfl) (by kernel_rfl) (fun _ _ _ h => h) (by rfl) ?_ hS ?_; rotate_left
            . (intro w' hSw; obtain ⟨⟨x0, x1, x2, x3⟩, _⟩ := hSw.rowAt 1 rfl HQr2.out; go_simp; try with_reducible rfl)
            try simp only [Act.put, List.setIfInBounds_toArray, List.set_cons_zero, List.set_cons_succ]
            refine anyS_take (v := ?_) 10 (some 76) rfl (by kernel_rfl) (by kernel_rfl) (fun _ _ _ h => h) (by rfl) ?_ hS ?_; rotate_left
            . (intro w' hSw; go_simp; try with_reducible rfl)
            try simp only [Act.put, List.setIfInBounds_toArray, List.set_cons_zero, List.set_cons_succ]
            refine anyS_take (v := ?_) 11 (some 77) rfl (by kernel_rfl) (by kernel_rfl) (fun _ _ _ h => h) (by rfl) ?_ hS ?_; rotate_left
            . (intro w' hSw; go_simp; try with_reducible rfl)
            try simp only [Act.put, List.setIfInBounds_toArray, List.set_cons_zero, List.set_cons_succ]
            refine anyS_take (v := ?_) 12 (some 78) rfl (by kernel_rfl) (by kernel_rfl) (fun _ _ _ h => h) (by rfl) ?_ hS ?_; rotate_left
            . (intro w' hSw; go_simp; try with_reducible rfl)
            try simp only [Act.put, List.setIfInBounds_toArray, List.set_cons_zero, List.set_cons_succ]
            refine anyS_take (v := ?_) 13 (some 79) rfl (by kernel_rfl) (by kernel_rfl) (fun _ _ _ h => h) (by rfl) ?_ hS ?_; rotate_left
            . (intro w' hSw; obtain ⟨⟨x0, x1, x2, x3⟩, _⟩ := hSw.rowAt 0 rfl HQk.out; go_simp; try with_reducible rfl)
            try simp only [Act.put, List.setIfInBounds_toArray, List.set_cons_zero, List.set_cons_succ]
            refine anyS_take (v := ?_) 14 (some 80) rfl (by kernel_rfl) (by kernel_rfl) (fun _ _ _ h => h) (by rfl) ?_ hS ?_; rotate_left
            . (intro w' hSw; go_simp; try with_reducible rfl)
            try simp only [Act.put, List.setIfInBounds_toArray, List.set_cons_zero, List.set_cons_succ]
            refine anyS_take (v := ?_) 15 (some 81) rfl (by kernel_rfl) (by kernel_rfl) (fun _ _ _ h => h) (by rfl) ?_ hS ?_; rotate_left
            . (intro w' hSw; go_simp; try with_reducible rfl)
            try simp only [Act.put, List.setIfInBounds_toArray, List.set_cons_zero, List.set_cons_succ]
            refine anyS_take (v := ?_) 16 (some 82) rfl (by kernel_rfl) (by kernel_rfl) (fun _ _ _ h => h) (by rfl) ?_ hS ?_; rotate_left
            . (intro w' hSw; go_simp; try with_reducible rfl)
            try simp only [Act.put, List.setIfInBounds_toArray, List.set_cons_zero, List.set_cons_succ]
            refine anyS_take (v := ?_) 17 (some 83) rfl (by kernel_rfl) (by kernel_rfl) (fun _ _ _ h => h) (by rfl) ?_ hS ?_; rotate_left
            . (intro w' hSw; obtain ⟨x0, x1, x2, x3⟩ := (hSw.pol 3 rfl).c4 rfl HQi.out hp; go_simp; try with_reducible rfl)
            try simp only [Act.put, List.setIfInBounds_toArray, List.set_cons_zero, List.set_cons_succ]
            have M1 := hI hS
            clear hS
            refine anyS_one 18 (by kernel_rfl) rfl (by rfl) (fun KK hKK => ?_)
            go_simp
            have C := uproduct_any qc qi cc (coef b i) wr.drew ((M1.out.arr 0 rfl).2 qc (List.mem_of_getElem? HQk.out)) ((M1.out.pol 3 rfl).ins qi (List.mem_of_getElem? HQi.out)) Vc.out.1 (HV.out.2.at_ HQi.out)
            rcases hz : mulO cc (coef b i) with er | z3
            . rw [hz] at C
              (with_reducible refine C.mono ?_)
              clear C
              rintro e wE ⟨rfl, hb⟩
              have HB := hI (M1.out.on hb).bel
              have HE := hI (show pdivO a b = .error er from by rw [HS.out, stepsO_err (e := er) _ _ (show j + 1 <= m by omega) (by rw [stepsO_succ, HR.out.2.2.2.2.2]; show rowO b (m - 1 - j) s = _; unfold rowO; rw [HK.out, HBd.out]; rw [thenO_ok Vc.out.2]; exact thenO_err (stepsO_err (e := er) _ _ (show i + 1 <= d by omega) (by rw [stepsO_succ, HI.out.2.2.2]; exact thenO_err hz _)) _)]; rfl)
              clear hb hz
              go_wp2
              exact ⟨rfl, by rw [HE.out]; exact ⟨rfl, HB.out⟩⟩
            . rw [hz] at C
              (with_reducible refine C.mono ?_)
              clear C
              rintro e w4 ⟨q3, rfl, hq, hv, hb⟩
              have V3 := hI (And.intro hv hz)
              have M2 := hI ((M1.out.on hb).addRat hq)
              clear hq hv hb hz M1
              refine hKK.out _ _ (Or.inr (M2.out.drop 1)) ?_
              clear hKK KK 
              try simp only [Act.put, List.setIfInBounds_toArray, List.set_cons_zero, List.set_cons_succ]
              refine anyS_one 19 (by kernel_rfl) rfl (by rfl) (fun KK hKK => ?_)
              go_simp
              have C := udifference_any qr2 q3 (coef t (k + i)) z3 w4 ((M2.out.arr 2 rfl).2 qr2 (List.mem_of_getElem? HQr2.out)) (M2.out.rat 0 rfl) (HI.out.2.1.at_ HQr2.out) V3.out.1
              rcases hz : subO (coef t (k + i)) z3 with er | z4
              . rw [hz] at C
                (with_reducible refine C.mono ?_)
                clear C
                rintro e wE ⟨rfl, hb⟩
                have HB := hI (M2.out.on hb).bel
                have HE := hI (show pdivO a b = .error er from by rw [HS.out, stepsO_err (e := er) _ _ (show j + 1 <= m by omega) (by rw [stepsO_succ, HR.out.2.2.2.2.2]; show rowO b (m - 1 - j) s = _; unfold rowO; rw [HK.out, HBd.out]; rw [thenO_ok Vc.out.2]; exact thenO_err (stepsO_err (e := er) _ _ (show i + 1 <= d by omega) (by rw [stepsO_succ, HI.out.2.2.2]; show thenO (mulO _ _) _ = _; rw [V3.out.2]; exact thenO_err hz _)) _)]; rfl)
                clear hb hz
                go_wp2
                exact ⟨rfl, by rw [HE.out]; exact ⟨rfl, HB.out⟩⟩
              . rw [hz] at C
                (with_reducible refine C.mono ?_)
                clear C
                rintro e w5 ⟨q4, rfl, hq, hv, hb⟩
                have V4 := hI (And.intro hv hz)
                have M3 := hI ((M2.out.on hb).addRat hq)
                clear hq hv hb hz M2
                refine hKK.out _ _ (Or.inr (M3.out.drop 2)) ?_
                clear hKK KK 
                try simp only [Act.put, List.setIfInBounds_toArray, List.set_cons_zero, List.set_cons_succ]
                obtain ⟨⟨c0, c1, c2, c3⟩, f0, f1, f2, f3⟩ := M3.out.rowAt 3 rfl (List.getElem?_eq_getElem HRi.out)
                refine anyS_one 20 (by kernel_rfl) rfl (by rfl) (fun KK hKK => ?_)
                go_simp
                refine hKK.out _ _ (Or.inr (M3.out.drop 2)) ?_
                clear hKK KK 
                try simp only [Act.put, List.setIfInBounds_toArray, List.set_cons_zero, List.set_cons_succ]
                refine anyS_one 21 (by kernel_rfl) rfl (by rfl) (fun KK hKK => ?_)
                go_simp
                refine hKK.out _ _ (Or.inl rfl) ?_
                clear hKK KK c0 c1 c2 c3 f0 f1 f2 f3
                refine anyS_done (by kernel_rfl) ?_
                generalize hU : World.setCell (World.setCell (World.setCell (World.setCell w5 _ _) _ _) _ _) _ _ = U2
                have M4 := hI ((M3.out.putRowU 3 rfl HRi.out (M3.out.rat 0 rfl) hU).drop 2)
                have HI2 := hI (show DvI w [.cel w.heap.size 84 #[.slice none 0 0, .slice none 0 0], .pol (some ad) n' c' L', .pol A n c L] b (Q.set k qc) s.2 cc rq (w.heap.size + 1) k (i + 1) U2 from ⟨R1.set (k + i) q4, t.set (k + i) z4, M4.out, HI.out.2.1.set V4.out.1, by rw [List.length_set]; exact HI.out.2.2.1, by rw [stepsO_succ, HI.out.2.2.2]; show thenO (mulO _ _) _ = _; rw [V3.out.2]; show thenO (subO _ _) _ = _; rw [V4.out.2]; rfl⟩)
                clear hU M4 M3 hp
                go_wp2
                go_roundw
                case rel => exact ⟨i + 1, by go_num, by omega, HI2⟩
                case measure => simp [intOf]; omega
          . have hid : d = i := by omega
            subst hid
            have HQ9 := hI (show Vs ((Q.set k qc).drop (m - (j + 1))) (cc :: s.1) by
             have := HK.out
             rw [show m - (j + 1) = k by omega, drop_set HQl.out, show k + 1 = m - j by omega]
             exact Vs.cons Vc.out.1 HR.out.2.2.1)
            have HR2 := hI (show DvR w [.cel w.heap.size 84 #[.slice none 0 0, .slice none 0 0], .pol (some ad) n' c' L', .pol A n c L] b ([], a) m rq (w.heap.size + 1) (j + 1) wr from ⟨Q.set k qc, R1, (cc :: s.1, t), HI.out.1, by rw [List.length_set]; exact HR.out.2.1, HQ9.out, HI.out.2.1, by show t.length = a.length; rw [HI.out.2.2.1, HR.out.2.2.2.2.1], by rw [stepsO_succ, HR.out.2.2.2.2.2]; show rowO b (m - 1 - j) s = _; unfold rowO; rw [HK.out, HBd.out, thenO_ok Vc.out.2, thenO_ok HI.out.2.2.2]⟩)
            have hk2 : (k : Int) - 1 = (m : Int) - 1 - ((j + 1 : Nat) : Int) := by omega
            clear hlt2 hk1
            go_wp2
            go_roundw
            case rel => exact ⟨j + 1, by push_cast; rfl, by omega, HR2⟩
            case measure => simp [intOf]; omega
     . have hjm : m = j := by omega
       subst hjm
       obtain ⟨z, hz⟩ : ∃ z : Nat, min d n = z := ⟨_, rfl⟩
       have hz1 : min (d : Int) (n : Int) = (z : Int) := by omega
       have hz2 : z <= n := by omega
       have ht : decide ((0 : Int) <= (m : Int) - 1 - (m : Int)) = false := by simp; omega
       have HE := hI (show pdivO a b = .ok (s.1, ptrim (s.2.take z)) by rw [HS.out, HR.out.2.2.2.2.2, hz]; rfl)
       have HQ := hI (show PSl wr (some ⟨rq, 0, none⟩) m m Q /\ Vs Q s.1 by
        have e1 := psl_arr (HR.out.1.arr 0 rfl) (by rw [HR.out.2.1]; have := HM.out; omega)
        have e2 := HR.out.2.2.1
        rw [Nat.sub_self, List.drop_zero] at e2
        rw [HR.out.2.1] at e1
        exact ⟨e1, e2⟩)
       have HP := hI (show PSl wr (some ⟨w.heap.size + 1, 0, none⟩) z n (R.take z) /\ Vs (R.take z) (s.2.take z) by
        have hRl : R.length = n := by rw [HR.out.2.2.2.1.len, HR.out.2.2.2.2.1, HN.out.1]
        have e1 := psl_arr (HR.out.1.arr 1 rfl) (by rw [hRl]; omega)
        rw [hRl] at e1
        refine ⟨e1.take hz2, ?_⟩
        have e2 := HR.out.2.2.2.1
        unfold Vs at *
        rw [List.map_take, List.map_take, e2])
       have hmn : ¬ n = 0 \/ n = 0 := by omega
       clear hz hlt hj
       go_wp2_with fail
       refine (utrim_any _ _ _ _ _ wr HP.out.1 HP.out.2).mono ?_
       rintro e w1 ⟨rfl, hb⟩
       have T1 := hI (utrim_psl HP.out.1 HP.out.2)
       have B1 := hI hb
       have M1 := hI (HR.out.1.on hb)
       have HRR := hI (show w.heap.size <= rq from HRQ.out)
       clear hb
       have c0 := (M1.out.cel 2 rfl).1.cell 0
       have c1 := (M1.out.cel 2 rfl).1.cell 1
       have f0 := (M1.out.cel 2 rfl).1.frozen 0
       have f1 := (M1.out.cel 2 rfl).1.frozen 1
       simp only [List.getElem?_toArray, List.getElem?_cons_zero, List.getElem?_cons_succ] at c0 c1
       go_wp2
       clear c0 c1 f0 f1
       generalize hU : World.setCell (World.setCell w1 _ _) _ _ = U
       have M2 : Hid (Mem w U _) := hI (hU ▸ ((M1.out.putCel 2 rfl 0 (by decide) (ns (some ⟨rq, 0, none⟩) m m)).putCel 2 rfl 1 (by simp) (ns (some ⟨w.heap.size + 1, 0, none⟩) (ptrim (s.2.take z)).length n)))
       have hRl := hI (show R.length = n by rw [HR.out.2.2.2.1.len, HR.out.2.2.2.2.1, HN.out.1])
       have hpl := hI (show (ptrim (s.2.take z)).length <= z from Nat.le_trans (ptrim_le _) (by rw [List.length_take]; exact Nat.min_le_left _ _))
       have P1 := hI (show PSl U (some ⟨rq, 0, none⟩) m m Q by have e1 := psl_arr (M2.out.arr 0 rfl) (by rw [HR.out.2.1]; have := HM.out; omega); rw [HR.out.2.1] at e1; exact e1)
       have P2 := hI (show PSl U (some ⟨w.heap.size + 1, 0, none⟩) (ptrim (s.2.take z)).length n (R.take (ptrim (s.2.take z)).length) by have e1 := psl_arr (M2.out.arr 1 rfl) (by rw [hRl.out]; omega); rw [hRl.out] at e1; exact e1.take (Nat.le_trans hpl.out hz2))
       have V2 := hI (show Vs (R.take (ptrim (s.2.take z)).length) (ptrim (s.2.take z)) by have := T1.out.2; rw [List.take_take, Nat.min_eq_left hpl.out] at this; exact this)
       have j0 := (M2.out.cel 2 rfl).1.cell 0
       have j1 := (M2.out.cel 2 rfl).1.cell 1
       simp at j0 j1
       refine bodyPost_ret (v := .agg #[.slice (some ⟨rq, 0, none⟩) m m, .slice (some ⟨w.heap.size + 1, 0, none⟩) (ptrim (s.2.take z)).length n]) (by simp [results, Tryz.results81, go_sem, j0, j1]) rfl ?_
       rw [HE.out]
       exact ⟨_, _, _, _, _, _, _, _, rfl, P1.out, HQ.out.2, (fun ad e => by injection e with e; subst e; exact HRR.out), P2.out, V2.out, (fun ad e => by injection e with e; subst e; exact Nat.le_succ _), M2.out.bel⟩
theorem udiv_any (A : Option Addr) (n c : Nat) (L : List RVal) (a : List Rat) (A' : Option Addr) (n' c' : Nat) (L' : List RVal) (b : List Rat) (w : World) (h : PSl w A n c L) (hv : Vs L a) (h' : PSl w A' n' c' L') (hv' : Vs L' b)
 (hn : n <= 100000) (hn' : n' <= 100000) (hl : b = [] \/ coef b (b.length - 1) ≠ 0) : Calls Tryz.prog 81 #[.slice A n c, .slice A' n' c'] w (OutD (pdivO a b) w) := by
 have e2 : b.length = n' := by rw [<- hv'.len, h'.len]
 rcases Nat.eq_zero_or_pos n' with h0 | h0
 . subst h0
   rw [show pdivO a b = .error 4 by unfold pdivO; rw [if_pos e2]]
   exact udiv_zero A n c A' c' w
 . refine udiv_go A n c L a A' n' c' L' b w h hv h' hv' hn hn' h0 ?_
   rcases hl with hl | hl
   . rw [hl] at e2; simp at e2; omega
   . exact hl
end Go.Proofs.YtmncfbfepdbioaaGreatDoor
namespace Go.Proofs.YtmncfbfepdbioaaGreatDoor
open Go.RowKit
theorem fld_rest (A : Option Addr) (n c : Nat) (A' : Option Addr) (n' c' : Nat) (w : World) : (Instr.field 84 (.agg #[.slice A n c, .slice A' n' c']) 1).run Tryz.prog w = .ok (.slice A' n' c') w := by kernel_rfl
def Tr (l : List Rat) : Prop := l = [] \/ coef l (l.length - 1) ≠ 0
theorem Tr.of {l : List Rat} (h : ptrim l = l) : Tr l := trim_iff.1 h
theorem Tr.nil : Tr [] := Or.inl rfl
theorem Tr.ptrim (l : List Rat) : Tr (ptrim l) := Tr.of (ptrim_idem l)
theorem coef_app {l : List Rat} {y : Rat} {k : Nat} (h : k < l.length) : coef (l ++ [y]) k = coef l k := by
 unfold coef
 rw [List.getD_eq_getElem?_getD, List.getD_eq_getElem?_getD, List.getElem?_append_left h]
theorem coef_last (l : List Rat) (y : Rat) : coef (l ++ [y]) l.length = y := by
 unfold coef
 rw [List.getD_eq_getElem?_getD, List.getElem?_append_right (Nat.le_refl _), Nat.sub_self]
 rfl
theorem listO_get {f : Nat -> Except Int Rat} : ∀ {n : Nat} {l : List Rat}, listO f n = .ok l -> ∀ k, k < n -> f k = .ok (coef l k)
 | 0, _, _, k, hk => absurd hk (Nat.not_lt_zero _)
 | n + 1, l, h, k, hk => by
   obtain ⟨m, hm, hf⟩ := thenO_inv h
   obtain ⟨y, hy, hl⟩ := thenO_inv hf
   injection hl with hl
   subst hl
   have e := listO_len hm
   by_cases c : k < n
   . rw [coef_app (by rw [e]; exact c)]; exact listO_get hm k c
   . have : k = m.length := by omega
     subst this
     rw [coef_last, e]; exact hy
theorem divO_ok {x y z : Rat} (h : divO x y = .ok z) : z = x / y := (if_okO h).2.symm
theorem monicO_tr {l r : List Rat} (h : monicO l = .ok r) (hl : Tr l) : Tr r /\ r.length = l.length := by
 have e := listO_len h
 refine ⟨?_, e⟩
 rcases hl with hl | hl
 . subst hl; injection h with h; subst h; exact Tr.nil
 . by_cases h0 : r.length = 0
   . exact Or.inl (List.eq_nil_of_length_eq_zero h0)
   . right
     have := divO_ok (listO_get h (r.length - 1) (by omega))
     rw [this, e, Rat.div_def, Rat.mul_inv_cancel _ hl]
     decide
theorem pdivO_len {a b : List Rat} {d : List Rat × List Rat} (h : pdivO a b = .ok d) : d.2.length <= b.length - 1 /\ Tr d.2 /\ d.1.length = a.length - (b.length - 1) := by
 unfold pdivO at h
 split at h
 . cases h
 . obtain ⟨s, hs, hd⟩ := thenO_inv h
   injection hd with hd
   subst hd
   refine ⟨Nat.le_trans (ptrim_len _) (by rw [List.length_take]; omega), Tr.ptrim _, ?_⟩
   have : ∀ n s, stepsO (fun j s => rowO b (a.length - (b.length - 1) - 1 - j) s) ([], a) n = .ok s -> s.1.length = n := by
    intro n
    induction n with
    | zero => intro s h; injection h with h; subst h; rfl
    | succ n ih =>
      intro s h
      obtain ⟨t, ht, hr⟩ := thenO_inv h
      unfold rowO at hr
      obtain ⟨c, _, hr⟩ := thenO_inv hr
      obtain ⟨u, _, hr⟩ := thenO_inv hr
      injection hr with hr
      subst hr
      show t.1.length + 1 = _
      rw [ih t ht]
   show s.1.length = _
   exact this _ s hs
def GdR (w : World) (F : Nat) (p q : List Rat) (A : Option Addr) (n c : Nat) (A' : Option Addr) (n' c' : Nat) (wr : World) : Prop :=
 ∃ (L L' : List RVal) (a b : List Rat) (f : Nat), Mem w wr [.pol A' n' c' L', .pol A n c L] /\ Vs L a /\ Vs L' b /\ Tr a /\ Tr b /\ n <= 100000 /\ n' <= 100000 /\ b.length <= f /\ gcdO F p q = gcdO f a b
theorem gcdO_nil {f : Nat} {a b : List Rat} (h : b.length = 0) : gcdO f a b = monicO a := by
 rcases f with _ | f
 . rfl
 . show (if b.length = 0 then monicO a else _) = _
   rw [if_pos h]
theorem ugcd_any (A : Option Addr) (n c : Nat) (L : List RVal) (a : List Rat) (A' : Option Addr) (n' c' : Nat) (L' : List RVal) (b : List Rat) (F : Nat) (w : World) (h : PSl w A n c L) (hv : Vs L a) (h' : PSl w A' n' c' L') (hv' : Vs L' b)
 (hn : n <= 100000) (hn' : n' <= 100000) (ha : Tr a) (hb : Tr b) (hF : b.length <= F) : Calls Tryz.prog 83 #[.slice A n c, .slice A' n' c'] w (OutP (gcdO F a b) w) := by
 have H0 := hI (show GdR w F a b A n c A' n' c' w from ⟨L, L', a, b, F, (((Mem.nil w).old (x := .pol A n c L) (by simp) h rfl).old (x := .pol A' n' c' L') (by simp [Rs.own]) h' rfl), hv, hv', ha, hb, hn, hn', hF, rfl⟩)
 clear h h' hv hv' ha hb hF hn hn'
 go_enter Tryz.func83, Tryz.ntmps83
 go_wp2_with fail
 go_loopw [0, 1] (fun x y wr => ∃ (A1 : Option Addr) (n1 c1 : Nat) (A2 : Option Addr) (n2 c2 : Nat), x = .slice A1 n1 c1 /\ y = .slice A2 n2 c2 /\ Hid (GdR w F a b A1 n1 c1 A2 n2 c2 wr)) (fun _ y _ => match y with | .slice _ n _ => n | _ => 0)
 case atStart => exact ⟨A, n, c, A', n', c', rfl, rfl, H0⟩
 case round =>
  obtain ⟨A1, n1, c1, A2, n2, c2, rfl, rfl, HR⟩ := hrel
  clear H0
  obtain ⟨L1, L2, a1, b1, f, HR1⟩ := HR.out
  have HR := hI HR1
  clear HR1
  have N2 := hI (show n2 = b1.length by rw [<- HR.out.2.2.1.len, (HR.out.1.pol 0 rfl).len])
  by_cases hlt : 0 < n2
  . obtain ⟨f, rfl⟩ : ∃ g, f = g + 1 := ⟨f - 1, by have := HR.out.2.2.2.2.2.2.2.1; have := N2.out; omega⟩
    have HF := hI HR.out.2.2.2.2.2.2.2.1
    have HS := hI (show gcdO F a b = thenO (pdivO a1 b1) fun d => thenO (monicO d.2) fun r => gcdO f b1 r by
     rw [HR.out.2.2.2.2.2.2.2.2]
     show (if b1.length = 0 then monicO a1 else _) = _
     rw [if_neg (by rw [<- N2.out]; omega)])
    go_wp2_with fail
    have C := udiv_any A1 n1 c1 L1 a1 A2 n2 c2 L2 b1 wr (HR.out.1.pol 1 rfl) HR.out.2.1 (HR.out.1.pol 0 rfl) HR.out.2.2.1 (by have := HR.out.2.2.2.2.2.1; omega) (by have := HR.out.2.2.2.2.2.2.1; omega) HR.out.2.2.2.2.1
    rcases hz : pdivO a1 b1 with er | d
    . rw [hz] at C
      (with_reducible refine C.mono ?_)
      clear C
      rintro e wE ⟨rfl, hb⟩
      have HB := hI ((hI HR.out.1).out.on hb).bel
      have HE := hI (show gcdO F a b = .error er from HS.out.trans (thenO_err hz _))
      clear hb hz
      go_wp2
      exact ⟨rfl, by rw [HE.out]; exact ⟨rfl, HB.out⟩⟩
    . rw [hz] at C
      (with_reducible refine C.mono ?_)
      clear C
      rintro e w1 ⟨Aq, nq, cq, Lq, Ar, nr, cr, Lr, rfl, hp, hv, hf, hp2, hv2, hf2, hb⟩
      have VD := hI (And.intro hz (And.intro hv2 (show nr = d.2.length by rw [<- Vs.len hv2, hp2.len])))
      have M1 := hI ((hI HR.out.1).out.addPol hb hp2 hf2)
      clear hp hv hf hb hz hp2 hv2 hf2 
      have hfd := fld_rest Aq nq cq Ar nr cr
      go_wp2_with fail
      have C := umonic_any Ar nr cr Lr d.2 w1 (M1.out.pol 0 rfl) VD.out.2.1 (by have := (pdivO_len VD.out.1).1; have := VD.out.2.2; have := N2.out; have := HR.out.2.2.2.2.2.2.1; omega) (pdivO_len VD.out.1).2.1
      rcases hz : monicO d.2 with er | r
      . rw [hz] at C
        (with_reducible refine C.mono ?_)
        clear C
        rintro e wE ⟨rfl, hb⟩
        have HB := hI (M1.out.on hb).bel
        have HE := hI (show gcdO F a b = .error er from HS.out.trans (by rw [VD.out.1]; exact thenO_err hz _))
        clear hb hz
        go_wp2
        exact ⟨rfl, by rw [HE.out]; exact ⟨rfl, HB.out⟩⟩
      . rw [hz] at C
        (with_reducible refine C.mono ?_)
        clear C
        rintro e w2 ⟨A3, n3, c3, L3, rfl, hp, hv, hf, hb⟩
        have V3 := hI (And.intro hv (And.intro hz (show n3 = r.length by rw [<- Vs.len hv, hp.len])))
        have M2 := hI (M1.out.addPol hb hp hf)
        have F3 := hI (show ∀ ad, A3 = some ad -> w.heap.size <= ad.block from fun ad e => Nat.le_trans M1.out.bel.size (hf ad e))
        clear hp hv hf hb hz M1 hfd
        have HR2 := hI (show GdR w F a b A2 n2 c2 A3 n3 c3 w2 from ⟨L2, L3, b1, r, f, M2.out.sub (by simp), HR.out.2.2.1, V3.out.1, HR.out.2.2.2.2.1, (monicO_tr V3.out.2.1 (pdivO_len VD.out.1).2.1).1, HR.out.2.2.2.2.2.2.1, (by rw [V3.out.2.2, (monicO_tr V3.out.2.1 (pdivO_len VD.out.1).2.1).2]; have := (pdivO_len VD.out.1).1; have := N2.out; have := HR.out.2.2.2.2.2.2.1; omega), (by rw [(monicO_tr V3.out.2.1 (pdivO_len VD.out.1).2.1).2]; have := (pdivO_len VD.out.1).1; have := N2.out; have := HF.out; omega), HS.out.trans (by show thenO (pdivO a1 b1) _ = _; rw [VD.out.1]; show thenO (monicO d.2) _ = _; rw [V3.out.2.1]; rfl)⟩)
        have hlt3 : n3 < n2 := by rw [V3.out.2.2, (monicO_tr V3.out.2.1 (pdivO_len VD.out.1).2.1).2]; have := (pdivO_len VD.out.1).1; have := N2.out; omega
        clear M2
        go_wp2
        go_roundw
        case rel => exact ⟨A2, n2, c2, A3, n3, c3, rfl, rfl, HR2⟩
        case measure => exact hlt3
  . have hz : n2 = 0 := by omega
    subst hz
    have HS := hI (show gcdO F a b = monicO a1 by rw [HR.out.2.2.2.2.2.2.2.2]; exact gcdO_nil N2.out.symm)
    clear hlt
    go_wp2_with fail
    have C := umonic_any A1 n1 c1 L1 a1 wr (HR.out.1.pol 1 rfl) HR.out.2.1 (by have := HR.out.2.2.2.2.2.1; omega) HR.out.2.2.2.1
    rcases hz : monicO a1 with er | r
    . rw [hz] at C
      (with_reducible refine C.mono ?_)
      clear C
      rintro e wE ⟨rfl, hb⟩
      have HB := hI (HR.out.1.on hb).bel
      have HE := hI (HS.out.trans hz)
      clear hb hz
      go_wp2
      exact ⟨rfl, by rw [HE.out]; exact ⟨rfl, HB.out⟩⟩
    . rw [hz] at C
      (with_reducible refine C.mono ?_)
      clear C
      rintro e w1 ⟨A3, n3, c3, L3, rfl, hp, hv, hf, hb⟩
      have HE := hI (HS.out.trans hz)
      have HB := hI (HR.out.1.on hb).bel
      have HP := hI (And.intro hp (And.intro hv (show ∀ ad, A3 = some ad -> w.heap.size <= ad.block from fun ad e => Nat.le_trans HR.out.1.bel.size (hf ad e))))
      clear hp hv hf hb hz
      go_wp2
      go_ret
      rw [HE.out]
      exact ⟨_, _, _, _, rfl, HP.out.1, HP.out.2.1, HP.out.2.2, HB.out⟩
end Go.Proofs.YtmncfbfepdbioaaGreatDoor
namespace Go.Proofs.YtmncfbfepdbioaaGreatDoor
open Go.RowKit
theorem resO_nil {g : Nat} {a b : List Rat} (h : a.length = 0 \/ b.length = 0) : resO (g + 1) a b = .ok 0 := by
 show (if a.length = 0 \/ b.length = 0 then _ else _) = _
 rw [if_pos h]
theorem resO_one {g : Nat} {a b : List Rat} (h : a.length ≠ 0) (h' : b.length = 1) : resO (g + 1) a b = powO (coef b 0) (a.length - 1) := by
 show (if a.length = 0 \/ b.length = 0 then _ else if b.length - 1 = 0 then _ else _) = _
 rw [if_neg (by omega), if_pos (by omega)]
theorem resO_swap {g : Nat} {a b : List Rat} (h : a.length ≠ 0) (h' : 1 < b.length) (hl : a.length < b.length) : resO (g + 1) a b = thenO (resO g b a) fun v => if (a.length - 1) * (b.length - 1) % 2 = 1 then subO 0 v else .ok v := by
 show (if a.length = 0 \/ b.length = 0 then _ else if b.length - 1 = 0 then _ else if a.length - 1 < b.length - 1 then _ else _) = _
 rw [if_neg (by omega), if_neg (by omega), if_pos (by omega)]
theorem resO_div {g : Nat} {a b : List Rat} (h' : 1 < b.length) (hl : b.length <= a.length) : resO (g + 1) a b = thenO (pdivO a b) fun d =>
 if d.2.length = 0 then .ok 0 else
 thenO (powO (coef b (b.length - 1)) (a.length - 1 - (d.2.length - 1))) fun x => thenO (resO g b d.2) fun y => thenO (mulO x y) fun v =>
 if (a.length - 1) * (b.length - 1) % 2 = 1 then subO 0 v else .ok v := by
 show (if a.length = 0 \/ b.length = 0 then _ else if b.length - 1 = 0 then _ else if a.length - 1 < b.length - 1 then _ else _) = _
 rw [if_neg (by omega), if_neg (by omega), if_neg (by omega)]
theorem ures_nil1 (A : Option Addr) (n c : Nat) (L : List RVal) (a : List Rat) (A' : Option Addr) (n' c' : Nat) (L' : List RVal) (b : List Rat) (w : World) (h : PSl w A n c L) (hv : Vs L a) (h' : PSl w A' n' c' L') (hv' : Vs L' b) (g : Nat) (hn : n <= 1000) (hn' : n' <= 1000) (h1 : n = 0) :
 Calls Tryz.prog 95 #[.slice A n c, .slice A' n' c'] w (OutW (resO (g + 1) a b) w) := by
 have HV := hI (And.intro hv hv')
 have HN := hI (show n = a.length /\ n' = b.length from ⟨by rw [<- hv.len, h.len], by rw [<- hv'.len, h'.len]⟩)
 have M := hI ((((Mem.nil w).old (x := .pol A n c L) (by simp) h rfl).old (x := .pol A' n' c' L') (by simp [Rs.own]) h' rfl).newNil _ rfl)
 have HS := hI (show resO (g + 1) a b = .ok 0 from resO_nil (by rw [<- HN.out.1, <- HN.out.2]; omega))
 have h3 : ((n : Int) == 0) = true := by rw [beq_iff_eq]; omega
 have HH := hI h1
 clear h1
 clear h h' hv hv'
 go_enter Tryz.func95, Tryz.ntmps95
 go_wp2_with fail
 generalize hW : World.alloc w _ = V at *
 clear hW
 (with_reducible refine (unumber_any 0 V (by decide) (by decide)).mono ?_)
 rintro e w1 ⟨q1, rfl, hq, hv, hb⟩
 have M1 := hI ((M.out.on hb).addRat hq)
 have V1 := hI hv
 clear hq hv hb 
 obtain ⟨c0, c1, c2, c3⟩ := (M1.out.box 1 rfl).cs
 obtain ⟨f0, f1, f2, f3⟩ := (M1.out.box 1 rfl).fs
 go_wp2
 clear c0 c1 c2 c3 f0 f1 f2 f3
 generalize hU : World.setCell (World.setCell (World.setCell (World.setCell w1 _ _) _ _) _ _) _ _ = U
 have M9 := hI (M1.out.putU 1 rfl (M1.out.rat 0 rfl) hU)
 clear hU
 obtain ⟨j0, j1, j2, j3⟩ := (M9.out.box 1 rfl).cs
 refine bodyPost_ret (v := .agg #[.bool q1.g, .slice q1.A q1.n q1.c, .bool q1.gd, .slice q1.Ad q1.nd q1.cd]) (by simp [results, Tryz.results95, go_sem, j0, j1, j2, j3]) rfl ?_
 rw [HS.out]
 exact ⟨q1, rfl, (M9.out.box 1 rfl).sl, (by show rv q1.o q1.od = _; rw [V1.out]; rfl), M9.out.bel⟩
theorem ures_nil2 (A : Option Addr) (n c : Nat) (L : List RVal) (a : List Rat) (A' : Option Addr) (n' c' : Nat) (L' : List RVal) (b : List Rat) (w : World) (h : PSl w A n c L) (hv : Vs L a) (h' : PSl w A' n' c' L') (hv' : Vs L' b) (g : Nat) (hn : n <= 1000) (hn' : n' <= 1000) (h1 : 0 < n) (h2 : n' = 0) :
 Calls Tryz.prog 95 #[.slice A n c, .slice A' n' c'] w (OutW (resO (g + 1) a b) w) := by
 have HV := hI (And.intro hv hv')
 have HN := hI (show n = a.length /\ n' = b.length from ⟨by rw [<- hv.len, h.len], by rw [<- hv'.len, h'.len]⟩)
 have M := hI ((((Mem.nil w).old (x := .pol A n c L) (by simp) h rfl).old (x := .pol A' n' c' L') (by simp [Rs.own]) h' rfl).newNil _ rfl)
 have HS := hI (show resO (g + 1) a b = .ok 0 from resO_nil (by rw [<- HN.out.1, <- HN.out.2]; omega))
 have h3 : ((n : Int) == 0) = false := by rw [beq_eq_false_iff_ne]; omega
 have h4 : ((n' : Int) == 0) = true := by rw [beq_iff_eq]; omega
 have HH := hI h2
 clear h2
 clear h h' hv hv'
 go_enter Tryz.func95, Tryz.ntmps95
 go_wp2_with fail
 generalize hW : World.alloc w _ = V at *
 clear hW
 (with_reducible refine (unumber_any 0 V (by decide) (by decide)).mono ?_)
 rintro e w1 ⟨q1, rfl, hq, hv, hb⟩
 have M1 := hI ((M.out.on hb).addRat hq)
 have V1 := hI hv
 clear hq hv hb 
 obtain ⟨c0, c1, c2, c3⟩ := (M1.out.box 1 rfl).cs
 obtain ⟨f0, f1, f2, f3⟩ := (M1.out.box 1 rfl).fs
 go_wp2
 clear c0 c1 c2 c3 f0 f1 f2 f3
 generalize hU : World.setCell (World.setCell (World.setCell (World.setCell w1 _ _) _ _) _ _) _ _ = U
 have M9 := hI (M1.out.putU 1 rfl (M1.out.rat 0 rfl) hU)
 clear hU
 obtain ⟨j0, j1, j2, j3⟩ := (M9.out.box 1 rfl).cs
 refine bodyPost_ret (v := .agg #[.bool q1.g, .slice q1.A q1.n q1.c, .bool q1.gd, .slice q1.Ad q1.nd q1.cd]) (by simp [results, Tryz.results95, go_sem, j0, j1, j2, j3]) rfl ?_
 rw [HS.out]
 exact ⟨q1, rfl, (M9.out.box 1 rfl).sl, (by show rv q1.o q1.od = _; rw [V1.out]; rfl), M9.out.bel⟩
theorem ures_one (A : Option Addr) (n c : Nat) (L : List RVal) (a : List Rat) (A' : Option Addr) (n' c' : Nat) (L' : List RVal) (b : List Rat) (w : World) (h : PSl w A n c L) (hv : Vs L a) (h' : PSl w A' n' c' L') (hv' : Vs L' b) (g : Nat) (hn : n <= 1000) (hn' : n' <= 1000) (h1 : 0 < n) (h2 : n' = 1) :
 Calls Tryz.prog 95 #[.slice A n c, .slice A' n' c'] w (OutW (resO (g + 1) a b) w) := by
 have HV := hI (And.intro hv hv')
 have HN := hI (show n = a.length /\ n' = b.length from ⟨by rw [<- hv.len, h.len], by rw [<- hv'.len, h'.len]⟩)
 have M := hI ((((Mem.nil w).old (x := .pol A n c L) (by simp) h rfl).old (x := .pol A' n' c' L') (by simp [Rs.own]) h' rfl).newNil _ rfl)
 have HS := hI (show resO (g + 1) a b = powO (coef b 0) (n - 1) by rw [HN.out.1]; exact resO_one (by rw [<- HN.out.1]; omega) (by rw [<- HN.out.2]; omega))
 have h3 : ((n : Int) == 0) = false := by rw [beq_eq_false_iff_ne]; omega
 have h4 : ((n' : Int) == 0) = false := by rw [beq_eq_false_iff_ne]; omega
 have h5 : (((n' : Int) - 1) == 0) = true := by rw [beq_iff_eq]; omega
 have h6 : (n : Int) - 1 = ((n - 1 : Nat) : Int) := by omega
 have h7 : 0 < n' := by omega
 obtain ⟨ad, q, p, rfl, hq, hp⟩ := h'.el (k := 0) h7
 rw [Nat.zero_mul, show ad.add 0 = ad from rfl] at hp
 subst hp
 have HQ := hI hq
 obtain ⟨x0, x1, x2, x3⟩ := (M.out.pol 1 rfl).c4 (p := ad) (k := 0) rfl hq rfl
 have HH := hI h2
 clear h h' hv hv' hq h2
 go_enter Tryz.func95, Tryz.ntmps95
 go_wp2_with fail
 generalize hW : World.alloc w _ = V at *
 clear hW x0 x1 x2 x3
 have C := upow_any q (coef b 0) (n - 1) V ((M.out.pol 1 rfl).ins q (List.mem_of_getElem? HQ.out)) (HV.out.2.at_ HQ.out) (by omega)
 rcases hz : powO (coef b 0) (n - 1) with er | z
 . rw [hz] at C
   (with_reducible refine C.mono ?_)
   clear C
   rintro e wE ⟨rfl, hb⟩
   have HB := hI (M.out.on hb).bel
   have HE := hI (HS.out.trans hz)
   clear hb hz
   go_wp2
   exact ⟨rfl, by rw [HE.out]; exact ⟨rfl, HB.out⟩⟩
 . rw [hz] at C
   (with_reducible refine C.mono ?_)
   clear C
   rintro e w1 ⟨q1, rfl, hq, hv, hb⟩
   have V1 := hI (And.intro hv hz)
   have M1 := hI ((M.out.on hb).addRat hq)
   clear hq hv hb hz 
   obtain ⟨c0, c1, c2, c3⟩ := (M1.out.box 1 rfl).cs
   obtain ⟨f0, f1, f2, f3⟩ := (M1.out.box 1 rfl).fs
   go_wp2
   clear c0 c1 c2 c3 f0 f1 f2 f3
   generalize hU : World.setCell (World.setCell (World.setCell (World.setCell w1 _ _) _ _) _ _) _ _ = U
   have M9 := hI (M1.out.putU 1 rfl (M1.out.rat 0 rfl) hU)
   clear hU
   obtain ⟨j0, j1, j2, j3⟩ := (M9.out.box 1 rfl).cs
   refine bodyPost_ret (v := .agg #[.bool q1.g, .slice q1.A q1.n q1.c, .bool q1.gd, .slice q1.Ad q1.nd q1.cd]) (by simp [results, Tryz.results95, go_sem, j0, j1, j2, j3]) rfl ?_
   rw [HS.out, V1.out.2]
   exact ⟨q1, rfl, (M9.out.box 1 rfl).sl, V1.out.1, M9.out.bel⟩
theorem ures_swap (A : Option Addr) (n c : Nat) (L : List RVal) (a : List Rat) (A' : Option Addr) (n' c' : Nat) (L' : List RVal) (b : List Rat) (w : World) (h : PSl w A n c L) (hv : Vs L a) (h' : PSl w A' n' c' L') (hv' : Vs L' b) (g : Nat) (hn : n <= 1000) (hn' : n' <= 1000) (h1 : 0 < n) (h2 : n < n') (ih : ∀ W : World, PSl W A' n' c' L' -> PSl W A n c L -> Calls Tryz.prog 95 #[.slice A' n' c', .slice A n c] W (OutW (resO g b a) W)) :
 Calls Tryz.prog 95 #[.slice A n c, .slice A' n' c'] w (OutW (resO (g + 1) a b) w) := by
 have M := hI (((((Mem.nil w).old (x := .pol A n c L) (by simp) h rfl).old (x := .pol A' n' c' L') (by simp [Rs.own]) h' rfl).newNil _ rfl).newNil (w.heap.size + 1) (by simp))
 have HV := hI (And.intro hv hv')
 have HN := hI (show n = a.length /\ n' = b.length from ⟨by rw [<- hv.len, h.len], by rw [<- hv'.len, h'.len]⟩)
 have HS := hI (show resO (g + 1) a b = _ from resO_swap (by rw [<- HN.out.1]; omega) (by rw [<- HN.out.2]; omega) (by rw [<- HN.out.1, <- HN.out.2]; omega))
 obtain ⟨P, hP⟩ : ∃ P : Nat, (n - 1) * (n' - 1) = P := ⟨_, rfl⟩
 have HPP := hI (show (a.length - 1) * (b.length - 1) = P by rw [<- HN.out.1, <- HN.out.2]; exact hP)
 have e2 : ((n : Int) - 1) * ((n' : Int) - 1) = (P : Int) := by rw [<- hP, Int.natCast_mul, Int.natCast_sub (by omega), Int.natCast_sub (by omega)]; rfl
 have hPb : P <= 1000 * 1000 := by rw [<- hP]; exact Nat.mul_le_mul (by omega) (by omega)
 have e3 : wrap64 (((n : Int) - 1) * ((n' : Int) - 1)) = (P : Int) := by rw [e2]; exact IntWalk.wrap64_in _ ⟨by omega, by omega⟩
 have h3 : ((n : Int) == 0) = false := by rw [beq_eq_false_iff_ne]; omega
 have h4 : ((n' : Int) == 0) = false := by rw [beq_eq_false_iff_ne]; omega
 have h5 : (((n' : Int) - 1) == 0) = false := by rw [beq_eq_false_iff_ne]; omega
 clear h h' hv hv' hP
 go_enter Tryz.func95, Tryz.ntmps95
 go_wp2_with fail
 generalize hW : World.alloc (World.alloc w _) _ = V at *
 clear hW
 have C := ih V (M.out.pol 2 rfl) (M.out.pol 3 rfl)
 rcases hz : resO g b a with er | v
 . rw [hz] at C
   (with_reducible refine C.mono ?_)
   clear C
   rintro e wE ⟨rfl, hb⟩
   have HB := hI (M.out.on hb).bel
   have HE := hI (show resO (g + 1) a b = .error er from HS.out.trans (by rw [hz]; rfl))
   clear hb hz
   go_wp2
   exact ⟨rfl, by rw [HE.out]; exact ⟨rfl, HB.out⟩⟩
 . rw [hz] at C
   (with_reducible refine C.mono ?_)
   clear C
   rintro e w1 ⟨qv, rfl, hq, hv, hb⟩
   have V1 := hI hv
   have HSv := hI (show resO (g + 1) a b = (if (a.length - 1) * (b.length - 1) % 2 = 1 then subO 0 v else .ok v) from HS.out.trans (by rw [hz]; rfl))
   have M1 := hI ((M.out.on hb).addRat hq)
   clear hq hv hb hz
   obtain ⟨c0, c1, c2, c3⟩ := (M1.out.box 1 rfl).cs
   obtain ⟨f0, f1, f2, f3⟩ := (M1.out.box 1 rfl).fs
   go_upto_region 13 with fail
   clear c0 c1 c2 c3 f0 f1 f2 f3
   generalize hU : World.setCell (World.setCell (World.setCell (World.setCell w1 _ _) _ _) _ _) _ _ = U
   have M2 := hI ((M1.out.putU 1 rfl (M1.out.rat 0 rfl) hU).drop 1)
   clear hU M1
   by_cases hodd : (a.length - 1) * (b.length - 1) % 2 = 1
   . have HP := hI (And.intro HPP.out hodd)
     clear hodd
     have HO := hI (show resO (g + 1) a b = subO 0 v from HSv.out.trans (if_pos HP.out.2))
     have hp1 : decide ((P : Int) % 2 = 1) = true := by have := HP.out.2; rw [HP.out.1] at this; simp; omega
     have hp2 : (((P : Int) % 2) == 1) = true := by have := HP.out.2; rw [HP.out.1] at this; rw [beq_iff_eq]; omega
     go_wp2_with fail
     refine anyS_start (fun w' => Mem w w' [.box (w.heap.size + 1) qv, .box w.heap.size RVal.nil, .pol A' n' c' L', .pol A n c L]) [3] 4 (by kernel_rfl) (by kernel_rfl) ?_
     have hS := M2.out.drew
     clear hp1 hp2
     refine anyS_take (v := ?_) 1 (some 65) rfl (by kernel_rfl) (by kernel_rfl) (fun _ _ _ h => h) (by rfl) ?_ hS ?_; rotate_left
     . (intro w' hSw; obtain ⟨x0, x1, x2, x3⟩ := (hSw.box 0 rfl).cs; go_simp; try with_reducible rfl)
     try simp only [Act.put, List.setIfInBounds_toArray, List.set_cons_zero, List.set_cons_succ]
     have N1 := hI hS
     clear hS
     refine anyS_one 0 (by kernel_rfl) rfl (by rfl) (fun KK hKK => ?_)
     go_simp
     (with_reducible refine (unumber_any 0 U.drew (by decide) (by decide)).mono ?_)
     rintro e w8 ⟨q8, rfl, hq, hv, hb⟩
     have N2 := hI ((N1.out.on hb).addRat hq)
     have V8 := hI hv
     clear hq hv hb N1
     refine hKK.out _ _ (Or.inr (N2.out.drop 1)) ?_
     clear hKK KK 
     try simp only [Act.put, List.setIfInBounds_toArray, List.set_cons_zero, List.set_cons_succ]
     refine anyS_one 2 (by kernel_rfl) rfl (by rfl) (fun KK hKK => ?_)
     go_simp
     have C := udifference_any q8 qv 0 v w8 (N2.out.rat 0 rfl) (N2.out.box 1 rfl).sl (by show rv q8.o q8.od = _; rw [V8.out]; rfl) V1.out
     rcases hz : subO 0 v with er | z9
     . rw [hz] at C
       (with_reducible refine C.mono ?_)
       clear C
       rintro e wE ⟨rfl, hb⟩
       have HB := hI (N2.out.on hb).bel
       have HE := hI (HO.out.trans hz)
       clear hb hz
       go_wp2
       exact ⟨rfl, by rw [HE.out]; exact ⟨rfl, HB.out⟩⟩
     . rw [hz] at C
       (with_reducible refine C.mono ?_)
       clear C
       rintro e w9 ⟨q9, rfl, hq, hv, hb⟩
       have V9 := hI (And.intro hv hz)
       have N3 := hI ((N2.out.on hb).addRat hq)
       clear hq hv hb hz N2
       refine hKK.out _ _ (Or.inr (N3.out.drop 2)) ?_
       clear hKK KK 
       try simp only [Act.put, List.setIfInBounds_toArray, List.set_cons_zero, List.set_cons_succ]
       obtain ⟨c0, c1, c2, c3⟩ := (N3.out.box 3 rfl).cs
       obtain ⟨f0, f1, f2, f3⟩ := (N3.out.box 3 rfl).fs
       refine anyS_one 3 (by kernel_rfl) rfl (by rfl) (fun KK hKK => ?_)
       go_simp
       refine hKK.out _ _ (Or.inl rfl) ?_
       clear hKK KK c0 c1 c2 c3 f0 f1 f2 f3
       refine anyS_done (by kernel_rfl) ?_
       generalize hU : World.setCell (World.setCell (World.setCell (World.setCell w9 _ _) _ _) _ _) _ _ = U9
       have M9 := hI (N3.out.putU 3 rfl (N3.out.rat 0 rfl) hU)
       clear hU
       obtain ⟨j0, j1, j2, j3⟩ := (M9.out.box 3 rfl).cs
       go_wp2
       refine bodyPost_ret (v := .agg #[.bool q9.g, .slice q9.A q9.n q9.c, .bool q9.gd, .slice q9.Ad q9.nd q9.cd]) (by simp [results, Tryz.results95, go_sem, j0, j1, j2, j3]) rfl ?_
       rw [HO.out, V9.out.2]
       exact ⟨q9, rfl, (M9.out.box 3 rfl).sl, V9.out.1, M9.out.bel⟩
   . have HP := hI (And.intro HPP.out hodd)
     clear hodd
     have HO := hI (show resO (g + 1) a b = .ok v from HSv.out.trans (if_neg HP.out.2))
     have hp1 : decide ((P : Int) % 2 = 1) = false := by have := HP.out.2; rw [HP.out.1] at this; simp; omega
     have hp2 : (((P : Int) % 2) == 1) = false := by have := HP.out.2; rw [HP.out.1] at this; rw [beq_eq_false_iff_ne]; omega
     obtain ⟨d0, d1, d2, d3⟩ := (M2.out.box 0 rfl).cs
     obtain ⟨c0, c1, c2, c3⟩ := (M2.out.box 1 rfl).cs
     obtain ⟨f0, f1, f2, f3⟩ := (M2.out.box 1 rfl).fs
     go_wp2
     clear c0 c1 c2 c3 f0 f1 f2 f3 d0 d1 d2 d3 hp1 hp2
     generalize hU : World.setCell (World.setCell (World.setCell (World.setCell U _ _) _ _) _ _) _ _ = U9
     have M9 := hI (M2.out.putU 1 rfl (M2.out.box 0 rfl).sl hU)
     clear hU
     obtain ⟨j0, j1, j2, j3⟩ := (M9.out.box 1 rfl).cs
     refine bodyPost_ret (v := .agg #[.bool qv.g, .slice qv.A qv.n qv.c, .bool qv.gd, .slice qv.Ad qv.nd qv.cd]) (by simp [results, Tryz.results95, go_sem, j0, j1, j2, j3]) rfl ?_
     rw [HO.out]
     exact ⟨qv, rfl, (M9.out.box 1 rfl).sl, V1.out, M9.out.bel⟩
theorem ures_div (A : Option Addr) (n c : Nat) (L : List RVal) (a : List Rat) (A' : Option Addr) (n' c' : Nat) (L' : List RVal) (b : List Rat) (w : World) (h : PSl w A n c L) (hv : Vs L a) (h' : PSl w A' n' c' L') (hv' : Vs L' b) (g : Nat) (hn : n <= 1000) (hn' : n' <= 1000) (h1 : 1 < n') (h2 : n' <= n) (hTb : Tr b) (ih : ∀ (Ar : Option Addr) (nr cr : Nat) (Lr : List RVal) (d : List Rat × List Rat) (W : World), pdivO a b = .ok d -> PSl W A' n' c' L' -> PSl W Ar nr cr Lr -> Vs Lr d.2 -> Calls Tryz.prog 95 #[.slice A' n' c', .slice Ar nr cr] W (OutW (resO g b d.2) W)) :
 Calls Tryz.prog 95 #[.slice A n c, .slice A' n' c'] w (OutW (resO (g + 1) a b) w) := by
 have M := hI (((((Mem.nil w).old (x := .pol A n c L) (by simp) h rfl).old (x := .pol A' n' c' L') (by simp [Rs.own]) h' rfl).newNil _ rfl).newNil (w.heap.size + 1) (by simp))
 have HV := hI (And.intro hv hv')
 have HTb := hI hTb
 have HN := hI (show n = a.length /\ n' = b.length from ⟨by rw [<- hv.len, h.len], by rw [<- hv'.len, h'.len]⟩)
 have HS := hI (show resO (g + 1) a b = _ from resO_div (by rw [<- HN.out.2]; omega) (by rw [<- HN.out.1, <- HN.out.2]; omega))
 obtain ⟨P, hP⟩ : ∃ P : Nat, (n - 1) * (n' - 1) = P := ⟨_, rfl⟩
 have HPP := hI (show (a.length - 1) * (b.length - 1) = P by rw [<- HN.out.1, <- HN.out.2]; exact hP)
 have e2 : ((n : Int) - 1) * ((n' : Int) - 1) = (P : Int) := by rw [<- hP, Int.natCast_mul, Int.natCast_sub (by omega), Int.natCast_sub (by omega)]; rfl
 have hPb : P <= 1000 * 1000 := by rw [<- hP]; exact Nat.mul_le_mul (by omega) (by omega)
 have e3 : wrap64 (((n : Int) - 1) * ((n' : Int) - 1)) = (P : Int) := by rw [e2]; exact IntWalk.wrap64_in _ ⟨by omega, by omega⟩
 have h3 : ((n : Int) == 0) = false := by rw [beq_eq_false_iff_ne]; omega
 have h4 : ((n' : Int) == 0) = false := by rw [beq_eq_false_iff_ne]; omega
 have h5 : (((n' : Int) - 1) == 0) = false := by rw [beq_eq_false_iff_ne]; omega
 clear h h' hv hv' hP hTb
 go_enter Tryz.func95, Tryz.ntmps95
 go_wp2_with fail
 generalize hW : World.alloc (World.alloc w _) _ = V at *
 clear hW
 have C := udiv_any A n c L a A' n' c' L' b V (M.out.pol 3 rfl) HV.out.1 (M.out.pol 2 rfl) HV.out.2 (by omega) (by omega) HTb.out
 rcases hz : pdivO a b with er | d
 . rw [hz] at C
   (with_reducible refine C.mono ?_)
   clear C
   rintro e wE ⟨rfl, hb⟩
   have HB := hI (M.out.on hb).bel
   have HE := hI (show resO (g + 1) a b = .error er from HS.out.trans (thenO_err hz _))
   clear hb hz
   go_wp2
   exact ⟨rfl, by rw [HE.out]; exact ⟨rfl, HB.out⟩⟩
 . rw [hz] at C
   (with_reducible refine C.mono ?_)
   clear C
   rintro e w1 ⟨Aq, nq, cq, Lq, Ar, nr, cr, Lr, rfl, hp, hv, hf, hp2, hv2, hf2, hb⟩
   have VD := hI (And.intro hz (And.intro hv2 (show nr = d.2.length by rw [<- Vs.len hv2, hp2.len])))
   have M1 := hI (M.out.addPol hb hp2 hf2)
   clear hp hv hf hb hz hp2 hv2 hf2 M
   have hfd := fld_rest Aq nq cq Ar nr cr
   have HDl := hI (show nr <= n' - 1 by rw [VD.out.2.2, HN.out.2]; exact (pdivO_len VD.out.1).1)
   have HS1 := hI (show resO (g + 1) a b = _ from HS.out.trans (by rw [VD.out.1]))
   rcases Nat.eq_zero_or_pos nr with hnr | hnr
   . subst hnr
     have HE0 := hI (show resO (g + 1) a b = .ok 0 from HS1.out.trans (if_pos VD.out.2.2.symm))
     go_wp2_with fail
     (with_reducible refine (unumber_any 0 w1 (by decide) (by decide)).mono ?_)
     rintro e w2 ⟨q1, rfl, hq, hv, hb⟩
     have M2 := hI ((M1.out.on hb).addRat hq)
     have V1 := hI hv
     clear hq hv hb M1
     obtain ⟨c0, c1, c2, c3⟩ := (M2.out.box 3 rfl).cs
     obtain ⟨f0, f1, f2, f3⟩ := (M2.out.box 3 rfl).fs
     go_wp2
     clear c0 c1 c2 c3 f0 f1 f2 f3
     generalize hU : World.setCell (World.setCell (World.setCell (World.setCell w2 _ _) _ _) _ _) _ _ = U
     have M9 := hI (M2.out.putU 3 rfl (M2.out.rat 0 rfl) hU)
     clear hU
     obtain ⟨j0, j1, j2, j3⟩ := (M9.out.box 3 rfl).cs
     refine bodyPost_ret (v := .agg #[.bool q1.g, .slice q1.A q1.n q1.c, .bool q1.gd, .slice q1.Ad q1.nd q1.cd]) (by simp [results, Tryz.results95, go_sem, j0, j1, j2, j3]) rfl ?_
     rw [HE0.out]
     exact ⟨q1, rfl, (M9.out.box 3 rfl).sl, (by show rv q1.o q1.od = _; rw [V1.out]; rfl), M9.out.bel⟩
   . have hr3 : ((nr : Int) == 0) = false := by rw [beq_eq_false_iff_ne]; omega
     have HS2 := hI (HS1.out.trans (if_neg (by rw [<- VD.out.2.2]; omega)))
     obtain ⟨ad, ql, pl, e9, hq, hp⟩ := (M1.out.pol 3 rfl).el (k := n' - 1) (by omega)
     subst e9
     have HQ := hI hq
     obtain ⟨x0, x1, x2, x3⟩ := (M1.out.pol 3 rfl).c4 rfl HQ.out hp
     clear hq
     obtain ⟨z, hz⟩ : ∃ z : Nat, n - 1 - (nr - 1) = z := ⟨_, rfl⟩
     have hz1 : (n : Int) - 1 - ((nr : Int) - 1) = (z : Int) := by have := HDl.out; omega
     have HZ := hI hz
     have hl1 : (n' : Int) - 1 = ((n' - 1 : Nat) : Int) := by omega
     have hl2 : ((n' - 1 : Nat) : Int) < n' := by omega
     have hl3 : (0 : Int) <= ((n' - 1 : Nat) : Int) := by omega
     have hzb : z <= 100000 := by omega
     clear hz
     go_wp2_with fail
     clear x0 x1 x2 x3
     have C := upow_any ql (coef b (n' - 1)) z w1 ((M1.out.pol 3 rfl).ins ql (List.mem_of_getElem? HQ.out)) (HV.out.2.at_ HQ.out) hzb
     rcases hz : powO (coef b (n' - 1)) z with er | x
     . rw [hz] at C
       (with_reducible refine C.mono ?_)
       clear C
       rintro e wE ⟨rfl, hb⟩
       have HB := hI (M1.out.on hb).bel
       have HE := hI (show resO (g + 1) a b = .error er from HS2.out.trans (by rw [<- HN.out.1, <- HN.out.2, <- VD.out.2.2, HZ.out]; exact thenO_err hz _))
       clear hb hz
       go_wp2
       exact ⟨rfl, by rw [HE.out]; exact ⟨rfl, HB.out⟩⟩
     . rw [hz] at C
       (with_reducible refine C.mono ?_)
       clear C
       rintro e w2 ⟨q1, rfl, hq, hv, hb⟩
       have V1 := hI (And.intro hv hz)
       have M2 := hI ((M1.out.on hb).addRat hq)
       clear hq hv hb hz M1
       go_wp2_with fail
       have C := ih Ar nr cr Lr d w2 VD.out.1 (M2.out.pol 4 rfl) (M2.out.pol 1 rfl) VD.out.2.1
       rcases hz : resO g b d.2 with er | y
       . rw [hz] at C
         (with_reducible refine C.mono ?_)
         clear C
         rintro e wE ⟨rfl, hb⟩
         have HB := hI (M2.out.on hb).bel
         have HE := hI (show resO (g + 1) a b = .error er from HS2.out.trans (by rw [<- HN.out.1, <- HN.out.2, <- VD.out.2.2, HZ.out, V1.out.2]; exact thenO_err hz _))
         clear hb hz
         go_wp2
         exact ⟨rfl, by rw [HE.out]; exact ⟨rfl, HB.out⟩⟩
       . rw [hz] at C
         (with_reducible refine C.mono ?_)
         clear C
         rintro e w3 ⟨q2, rfl, hq, hv, hb⟩
         have V2 := hI (And.intro hv hz)
         have M3 := hI ((M2.out.on hb).addRat hq)
         clear hq hv hb hz M2
         go_wp2_with fail
         have C := uproduct_any q1 q2 x y w3 (M3.out.rat 1 rfl) (M3.out.rat 0 rfl) V1.out.1 V2.out.1
         rcases hz : mulO x y with er | v
         . rw [hz] at C
           (with_reducible refine C.mono ?_)
           clear C
           rintro e wE ⟨rfl, hb⟩
           have HB := hI (M3.out.on hb).bel
           have HE := hI (show resO (g + 1) a b = .error er from HS2.out.trans (by rw [<- HN.out.1, <- HN.out.2, <- VD.out.2.2, HZ.out, V1.out.2]; show thenO (resO g b d.2) _ = _; rw [V2.out.2]; exact thenO_err hz _))
           clear hb hz
           go_wp2
           exact ⟨rfl, by rw [HE.out]; exact ⟨rfl, HB.out⟩⟩
         . rw [hz] at C
           (with_reducible refine C.mono ?_)
           clear C
           rintro e w4 ⟨qv, rfl, hq, hv, hb⟩
           have V3 := hI (And.intro hv hz)
           have M4 := hI ((M3.out.on hb).addRat hq)
           clear hq hv hb hz M3
           have HSv := hI (show resO (g + 1) a b = (if (a.length - 1) * (b.length - 1) % 2 = 1 then subO 0 v else .ok v) from HS2.out.trans (by rw [<- HN.out.1, <- HN.out.2, <- VD.out.2.2, HZ.out, V1.out.2]; show thenO (resO g b d.2) _ = _; rw [V2.out.2]; show thenO (mulO x y) _ = _; rw [V3.out.2]; rfl))
           have e4 : ((n : Int) - 1) * ((n' - 1 : Nat) : Int) = (P : Int) := by rw [<- hl1]; exact e2
           have e5 : wrap64 (((n : Int) - 1) * ((n' - 1 : Nat) : Int)) = (P : Int) := by rw [<- hl1]; exact e3
           obtain ⟨c0, c1, c2, c3⟩ := (M4.out.box 4 rfl).cs
           obtain ⟨f0, f1, f2, f3⟩ := (M4.out.box 4 rfl).fs
           go_upto_region 13 with fail
           clear c0 c1 c2 c3 f0 f1 f2 f3
           generalize hU : World.setCell (World.setCell (World.setCell (World.setCell w4 _ _) _ _) _ _) _ _ = U
           have M5 := hI ((M4.out.putU 4 rfl (M4.out.rat 0 rfl) hU).drop 4)
           clear hU M4
           by_cases hodd : (a.length - 1) * (b.length - 1) % 2 = 1
           . have HP := hI (And.intro HPP.out hodd)
             clear hodd
             have HO := hI (show resO (g + 1) a b = subO 0 v from HSv.out.trans (if_pos HP.out.2))
             have hp1 : decide ((P : Int) % 2 = 1) = true := by have := HP.out.2; rw [HP.out.1] at this; simp; omega
             have hp2 : (((P : Int) % 2) == 1) = true := by have := HP.out.2; rw [HP.out.1] at this; rw [beq_iff_eq]; omega
             go_wp2_with fail
             refine anyS_start (fun w' => Mem w w' [.box (w.heap.size + 1) qv, .box w.heap.size RVal.nil, .pol (some ad) n' c' L', .pol A n c L]) [3] 4 (by kernel_rfl) (by kernel_rfl) ?_
             have hS := M5.out.drew
             clear hp1 hp2
             refine anyS_take (v := ?_) 1 (some 65) rfl (by kernel_rfl) (by kernel_rfl) (fun _ _ _ h => h) (by rfl) ?_ hS ?_; rotate_left
             . (intro w' hSw; obtain ⟨x0, x1, x2, x3⟩ := (hSw.box 0 rfl).cs; go_simp; try with_reducible rfl)
             try simp only [Act.put, List.setIfInBounds_toArray, List.set_cons_zero, List.set_cons_succ]
             have N1 := hI hS
             clear hS
             refine anyS_one 0 (by kernel_rfl) rfl (by rfl) (fun KK hKK => ?_)
             go_simp
             (with_reducible refine (unumber_any 0 U.drew (by decide) (by decide)).mono ?_)
             rintro e w8 ⟨q8, rfl, hq, hv, hb⟩
             have N2 := hI ((N1.out.on hb).addRat hq)
             have V8 := hI hv
             clear hq hv hb N1
             refine hKK.out _ _ (Or.inr (N2.out.drop 1)) ?_
             clear hKK KK 
             try simp only [Act.put, List.setIfInBounds_toArray, List.set_cons_zero, List.set_cons_succ]
             refine anyS_one 2 (by kernel_rfl) rfl (by rfl) (fun KK hKK => ?_)
             go_simp
             have C := udifference_any q8 qv 0 v w8 (N2.out.rat 0 rfl) (N2.out.box 1 rfl).sl (by show rv q8.o q8.od = _; rw [V8.out]; rfl) V3.out.1
             rcases hz : subO 0 v with er | z9
             . rw [hz] at C
               (with_reducible refine C.mono ?_)
               clear C
               rintro e wE ⟨rfl, hb⟩
               have HB := hI (N2.out.on hb).bel
               have HE := hI (HO.out.trans hz)
               clear hb hz
               go_wp2
               exact ⟨rfl, by rw [HE.out]; exact ⟨rfl, HB.out⟩⟩
             . rw [hz] at C
               (with_reducible refine C.mono ?_)
               clear C
               rintro e w9 ⟨q9, rfl, hq, hv, hb⟩
               have V9 := hI (And.intro hv hz)
               have N3 := hI ((N2.out.on hb).addRat hq)
               clear hq hv hb hz N2
               refine hKK.out _ _ (Or.inr (N3.out.drop 2)) ?_
               clear hKK KK 
               try simp only [Act.put, List.setIfInBounds_toArray, List.set_cons_zero, List.set_cons_succ]
               obtain ⟨c0, c1, c2, c3⟩ := (N3.out.box 3 rfl).cs
               obtain ⟨f0, f1, f2, f3⟩ := (N3.out.box 3 rfl).fs
               refine anyS_one 3 (by kernel_rfl) rfl (by rfl) (fun KK hKK => ?_)
               go_simp
               refine hKK.out _ _ (Or.inl rfl) ?_
               clear hKK KK c0 c1 c2 c3 f0 f1 f2 f3
               refine anyS_done (by kernel_rfl) ?_
               generalize hU : World.setCell (World.setCell (World.setCell (World.setCell w9 _ _) _ _) _ _) _ _ = U9
               have M9 := hI (N3.out.putU 3 rfl (N3.out.rat 0 rfl) hU)
               clear hU
               obtain ⟨j0, j1, j2, j3⟩ := (M9.out.box 3 rfl).cs
               go_wp2
               refine bodyPost_ret (v := .agg #[.bool q9.g, .slice q9.A q9.n q9.c, .bool q9.gd, .slice q9.Ad q9.nd q9.cd]) (by simp [results, Tryz.results95, go_sem, j0, j1, j2, j3]) rfl ?_
               rw [HO.out, V9.out.2]
               exact ⟨q9, rfl, (M9.out.box 3 rfl).sl, V9.out.1, M9.out.bel⟩
           . have HP := hI (And.intro HPP.out hodd)
             clear hodd
             have HO := hI (show resO (g + 1) a b = .ok v from HSv.out.trans (if_neg HP.out.2))
             have hp1 : decide ((P : Int) % 2 = 1) = false := by have := HP.out.2; rw [HP.out.1] at this; simp; omega
             have hp2 : (((P : Int) % 2) == 1) = false := by have := HP.out.2; rw [HP.out.1] at this; rw [beq_eq_false_iff_ne]; omega
             obtain ⟨d0, d1, d2, d3⟩ := (M5.out.box 0 rfl).cs
             obtain ⟨c0, c1, c2, c3⟩ := (M5.out.box 1 rfl).cs
             obtain ⟨f0, f1, f2, f3⟩ := (M5.out.box 1 rfl).fs
             go_wp2
             clear c0 c1 c2 c3 f0 f1 f2 f3 d0 d1 d2 d3 hp1 hp2
             generalize hU : World.setCell (World.setCell (World.setCell (World.setCell U _ _) _ _) _ _) _ _ = U9
             have M9 := hI (M5.out.putU 1 rfl (M5.out.box 0 rfl).sl hU)
             clear hU
             obtain ⟨j0, j1, j2, j3⟩ := (M9.out.box 1 rfl).cs
             refine bodyPost_ret (v := .agg #[.bool qv.g, .slice qv.A qv.n qv.c, .bool qv.gd, .slice qv.Ad qv.nd qv.cd]) (by simp [results, Tryz.results95, go_sem, j0, j1, j2, j3]) rfl ?_
             rw [HO.out]
             exact ⟨qv, rfl, (M9.out.box 1 rfl).sl, V3.out.1, M9.out.bel⟩
def resN (a b : List Rat) : Nat := if a.length < b.length then 2 * a.length + 2 else 2 * b.length + 1
theorem ures_any : ∀ (g : Nat) (A : Option Addr) (n c : Nat) (L : List RVal) (a : List Rat) (A' : Option Addr) (n' c' : Nat) (L' : List RVal) (b : List Rat) (w : World), PSl w A n c L -> Vs L a -> PSl w A' n' c' L' -> Vs L' b -> n <= 1000 -> n' <= 1000 -> Tr a -> Tr b -> resN a b <= g →
 Calls Tryz.prog 95 #[.slice A n c, .slice A' n' c'] w (OutW (resO g a b) w)
 | 0, A, n, c, L, a, A', n', c', L', b, w, _, _, _, _, _, _, _, _, hg => by unfold resN at hg; split at hg <;> omega
 | g + 1, A, n, c, L, a, A', n', c', L', b, w, h, hv, h', hv', hn, hn', ha, hb, hg => by
   have e1 : a.length = n := by rw [<- hv.len, h.len]
   have e2 : b.length = n' := by rw [<- hv'.len, h'.len]
   rcases Nat.eq_zero_or_pos n with h0 | h0
   . exact ures_nil1 A n c L a A' n' c' L' b w h hv h' hv' g hn hn' h0
   . rcases Nat.eq_zero_or_pos n' with h1 | h1
     . exact ures_nil2 A n c L a A' n' c' L' b w h hv h' hv' g hn hn' h0 h1
     . by_cases h2 : n' = 1
       . exact ures_one A n c L a A' n' c' L' b w h hv h' hv' g hn hn' h0 h2
       . unfold resN at hg
         by_cases h3 : n < n'
         . rw [if_pos (by omega)] at hg
           refine ures_swap A n c L a A' n' c' L' b w h hv h' hv' g hn hn' h0 h3 fun W k k' => ?_
           exact ures_any g A' n' c' L' b A n c L a W k hv' k' hv hn' hn hb ha (by unfold resN; rw [if_neg (by omega)]; omega)
         . rw [if_neg (by omega)] at hg
           refine ures_div A n c L a A' n' c' L' b w h hv h' hv' g hn hn' (by omega) (by omega) hb fun Ar nr cr Lr d W hd k k' vr => ?_
           have l := pdivO_len hd
           have e3 : d.2.length = nr := by rw [<- vr.len, k'.len]
           exact ures_any g A' n' c' L' b Ar nr cr Lr d.2 W k hv' k' vr hn' (by omega) hb l.2.1 (by unfold resN; rw [if_neg (by omega)]; omega)
end Go.Proofs.YtmncfbfepdbioaaGreatDoor
