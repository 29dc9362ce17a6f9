/-
  What further laws use of the texts before.
-/
import Derived.Test.YtjbnclfbkccieaaGreatDoorPolBi
import Derived.Test.YtjbnclfbkccieaaGreatDoorPolK
import Derived.Test.YtjbnclfbkccieaaGreatDoorPolR
import Derived.Test.YtjbnclfbkccieaaGreatDoorPolT
import Derived.Test.YtjbnclfbkccieaaGreatDoorRatL
import Derived.Test.YtjbnclfbkccieaaGreatDoorUniS
namespace Go.Proofs.YtjbnclfbkccieaaGreatDoor
open Go.RowKit
theorem sign_zero (q : RVal) (w : World) (h : q.In w) (x : Rat) (hx : rv q.o q.od = some x) (h0 : x.num = 0) :
    Calls Tryz.prog 32 #[.agg #[.bool q.g, .slice q.A q.n q.c, .bool q.gd, .slice q.Ad q.nd q.cd]] w (fun e w' => e = .returned (.int .i64 (0)) ∧ Below w.heap.size w w') := by
  have HE := Lib.hid (isSome_of hx)
  have hn0 : ((q.n : Int) == 0) = true := by rw [num_len h.1 (rv_some hx).1, decide_eq_true h0]
  clear hx h0
  have HB0 := Lib.hid (below_new w (.cells #[.bool q.g, .slice q.A q.n q.c, .bool q.gd, .slice q.Ad q.nd q.cd] 27))
  have HR0 := Lib.hid (Rb.new h)
  clear h
  go_enter Tryz.func32, Tryz.ntmps32
  go_wp2_with fail
  have C := ratValid_r HR0.out.sl
  rw [HE.out] at C
  refine C.mono ?_
  clear C
  rintro e w1 ⟨rfl, hb1⟩
  have HB1 := Lib.hid (below_chain HB0.out HB0.out.size hb1)
  have RA := Lib.hid (HR0.out.on hb1)
  clear hb1
  have k0 := RA.out.c0
  have k1 := RA.out.c1
  go_wp2
  go_ret
  exact ⟨rfl, HB1.out⟩
theorem sign_pos (q : RVal) (w : World) (h : q.In w) (x : Rat) (hx : rv q.o q.od = some x) (h0 : 0 < x.num) :
    Calls Tryz.prog 32 #[.agg #[.bool q.g, .slice q.A q.n q.c, .bool q.gd, .slice q.Ad q.nd q.cd]] w (fun e w' => e = .returned (.int .i64 (1)) ∧ Below w.heap.size w w') := by
  have HE := Lib.hid (isSome_of hx)
  have hn0 : ((q.n : Int) == 0) = false := by rw [num_len h.1 (rv_some hx).1]; exact decide_eq_false (by omega)
  have HG := Lib.hid (show q.g = false by
    have := ov_sign (rv_some hx).1
    rw [← this]; exact decide_eq_false (by omega))
  clear hx h0
  have HB0 := Lib.hid (below_new w (.cells #[.bool q.g, .slice q.A q.n q.c, .bool q.gd, .slice q.Ad q.nd q.cd] 27))
  have HR0 := Lib.hid (Rb.new h)
  clear h
  go_enter Tryz.func32, Tryz.ntmps32
  go_wp2_with fail
  have C := ratValid_r HR0.out.sl
  rw [HE.out] at C
  refine C.mono ?_
  clear C
  rintro e w1 ⟨rfl, hb1⟩
  have HB1 := Lib.hid (below_chain HB0.out HB0.out.size hb1)
  have RA := Lib.hid (HR0.out.on hb1)
  clear hb1
  have k0 := RA.out.c0
  rw [HG.out] at k0
  have k1 := RA.out.c1
  go_wp2
  go_ret
  exact ⟨rfl, HB1.out⟩
theorem sign_q {q : RVal} {x : Rat} {w : World} (h : q.In w) (hx : rv q.o q.od = some x) : Calls Tryz.prog 32 #[.agg #[.bool q.g, .slice q.A q.n q.c, .bool q.gd, .slice q.Ad q.nd q.cd]] w (fun e w' => e = .returned (.int .i64 (x.num.sign)) ∧ Below w.heap.size w w') := by
  rcases Int.lt_trichotomy x.num 0 with h0 | h0 | h0
  · rw [Int.sign_eq_neg_one_of_neg h0]; exact sign_neg q w h x hx h0
  · rw [h0]; exact sign_zero q w h x hx h0
  · rw [Int.sign_eq_one_of_pos h0]; exact sign_pos q w h x hx h0
/-- One step of the division: the quotient's coefficient at k, and the rest without it. -/
def pstep (q : List Rat) (k : Nat) (rest : List Rat) : Rat × List Rat :=
  let d := q.length - 1
  let c := coef rest (k + d) / coef q d
  (c, (List.range rest.length).map fun j => if k ≤ j ∧ j < k + d then coef rest j - c * coef q (j - k) else coef rest j)
def pdivs (q : List Rat) : Nat → List Rat → List Rat → List Rat × List Rat
  | 0, quot, rest => (quot, rest)
  | k + 1, quot, rest => let s := pstep q k rest; pdivs q k (s.1 :: quot) s.2
def pdiv (p q : List Rat) : List Rat × List Rat :=
  let d := q.length - 1
  let r := pdivs q (p.length - d) [] p
  (r.1, ptrim (r.2.take (min d p.length)))
def evO (p : List Rat) (x : Rat) : Except Int Rat := stepsO (fun i v => thenO (mulO v x) fun t => addO t (coef p (p.length - 1 - i))) 0 p.length
def VaR (w : World) (b n : Nat) (A : Option Addr) (c : Nat) (L : List RVal) (l : List Rat) (x : RVal) (y : Rat) (k : Nat) (wr : World) : Prop :=
  ∃ (qv : RVal) (v : Rat), Mem w wr [.box b qv, .box (w.heap.size + 1) RVal.nil, .box w.heap.size x, .pol A n c L] ∧ qv.v = some v ∧ stepsO (fun i v => thenO (mulO v y) fun t => addO t (coef l (l.length - 1 - i))) 0 k = .ok v
set_option linter.unusedSimpArgs false in
set_option maxRecDepth 20000 in
set_option maxHeartbeats 4000000 in
theorem uval_any (A : Option Addr) (n c : Nat) (L : List RVal) (l : List Rat) (x : RVal) (y : Rat) (w : World) (h : PSl w A n c L) (hv : Vs L l) (hx : x.In w) (hy : x.v = some y) (hn : n ≤ 100000) :
    Calls Tryz.prog 76 #[.slice A n c, .agg #[.bool x.g, .slice x.A x.n x.c, .bool x.gd, .slice x.Ad x.nd x.cd]] w (OutW (evO l y) w) := by
  have M := hI ((((Mem.nil w).old (x := .pol A n c L) (by simp) h rfl).newBox hx _ rfl).newNil (w.heap.size + 1) (by simp))
  have HV := hI (And.intro hv hy)
  have HN := hI (show n = l.length by rw [← hv.len, h.len])
  clear h hx hv hy
  go_enter Tryz.func76, Tryz.ntmps76
  go_wp2_with fail
  generalize hW : World.alloc (World.alloc w _) _ = V at *
  clear hW
  refine (unumber_any 0 V (by decide) (by decide)).mono ?_
  rintro e w1 ⟨q0, rfl, hq, hv, hb⟩
  have M1 := hI ((M.out.on hb).newBox hq _ rfl)
  have H0 := hI (show VaR w w1.heap.size n A c L l x y 0 (w1.alloc (.cells #[.bool q0.g, .slice q0.A q0.n q0.c, .bool q0.gd, .slice q0.Ad q0.nd q0.cd] 27)) from ⟨q0, 0, M1.out, by show rv q0.o q0.od = _; rw [hv]; rfl, rfl⟩)
  clear hq hv hb M M1
  go_wp2_with fail
  go_loopw [10] (fun v wr => ∃ k : Nat, v = .int .i64 k ∧ k ≤ n ∧ Hid (VaR w w1.heap.size n A c L l x y k wr)) (fun v _ => n - (intOf v).toNat)
  case atStart => exact ⟨0, rfl, Nat.zero_le _, H0⟩
  case round =>
    obtain ⟨k, rfl, hk, HR⟩ := hrel
    clear H0
    obtain ⟨qv, v, HR⟩ := HR.out
    have HR := hI HR
    obtain ⟨b, hb⟩ : ∃ b : Nat, w1.heap.size = b := ⟨_, rfl⟩
    rw [hb] at HR
    simp only [hb]
    have HB := hI hb
    clear hb
    by_cases hlt : k < n
    · obtain ⟨ad, q, p, rfl, hq, hp⟩ := (HR.out.1.pol 3 rfl).el (k := n - 1 - k) (by omega)
      have HQ := hI hq
      have hi1 : (0 : Int) ≤ ((n - 1 - k : Nat) : Int) := by omega
      have hi2 : IntKind.i64.wrap ((n : Int) - 1) = (n : Int) - 1 := IntWalk.i64_in _ (by omega)
      have hi3 : IntKind.i64.wrap ((n : Int) - 1 - k) = ((n - 1 - k : Nat) : Int) := by rw [IntWalk.i64_in _ (by omega)]; omega
      have hi4 : ((n - 1 - k : Nat) : Int) < n := by omega
      clear hq
      go_wp2_with fail
      refine anyS_start (fun w' => Mem w w' [.box b qv, .box (w.heap.size + 1) RVal.nil, .box w.heap.size x, .pol (some ad) n c L]) [12] 13 (by kernel_rfl) (by kernel_rfl) ?_
      have hS := (hI HR.out.1).out.drew
      refine anyS_take (v := ?_) 0 (some 13) rfl (by kernel_rfl) (by kernel_rfl) (fun _ _ _ h => h) (by rfl) ?_ hS ?_; rotate_left
      · (intro w' hSw; obtain ⟨x0, x1, x2, x3⟩ := (hSw.box 0 rfl).cs; go_simp; try with_reducible rfl)
      try simp only [Act.put, List.setIfInBounds_toArray, List.set_cons_zero, List.set_cons_succ]
      refine anyS_take (v := ?_) 1 (some 14) rfl (by kernel_rfl) (by kernel_rfl) (fun _ _ _ h => h) (by rfl) ?_ hS ?_; rotate_left
      · (intro w' hSw; obtain ⟨x0, x1, x2, x3⟩ := (hSw.box 2 rfl).cs; go_simp; try with_reducible rfl)
      try simp only [Act.put, List.setIfInBounds_toArray, List.set_cons_zero, List.set_cons_succ]
      refine anyS_take (v := ?_) 3 (some 16) rfl (by kernel_rfl) (by kernel_rfl) (fun _ _ _ h => h) (by rfl) ?_ hS ?_; rotate_left
      · (intro w' hSw; go_simp; try with_reducible rfl)
      try simp only [Act.put, List.setIfInBounds_toArray, List.set_cons_zero, List.set_cons_succ]
      refine anyS_take (v := ?_) 4 (some 17) rfl (by kernel_rfl) (by kernel_rfl) (fun _ _ _ h => h) (by rfl) ?_ hS ?_; rotate_left
      · (intro w' hSw; go_simp; try with_reducible rfl)
      try simp only [Act.put, List.setIfInBounds_toArray, List.set_cons_zero, List.set_cons_succ]
      refine anyS_take (v := ?_) 5 (some 18) rfl (by kernel_rfl) (by kernel_rfl) (fun _ _ _ h => h) (by rfl) ?_ hS ?_; rotate_left
      · (intro w' hSw; go_simp; try with_reducible rfl)
      try simp only [Act.put, List.setIfInBounds_toArray, List.set_cons_zero, List.set_cons_succ]
      refine anyS_take (v := ?_) 6 (some 19) rfl (by kernel_rfl) (by kernel_rfl) (fun _ _ _ h => h) (by rfl) ?_ hS ?_; rotate_left
      · (intro w' hSw; go_simp; try with_reducible rfl)
      try simp only [Act.put, List.setIfInBounds_toArray, List.set_cons_zero, List.set_cons_succ]
      refine anyS_take (v := ?_) 7 (some 20) rfl (by kernel_rfl) (by kernel_rfl) (fun _ _ _ h => h) (by rfl) ?_ hS ?_; rotate_left
      · (intro w' hSw; go_simp; try with_reducible rfl)
      try simp only [Act.put, List.setIfInBounds_toArray, List.set_cons_zero, List.set_cons_succ]
      refine anyS_take (v := ?_) 8 (some 21) rfl (by kernel_rfl) (by kernel_rfl) (fun _ _ _ h => h) (by rfl) ?_ hS ?_; rotate_left
      · (intro w' hSw; go_simp; try with_reducible rfl)
      try simp only [Act.put, List.setIfInBounds_toArray, List.set_cons_zero, List.set_cons_succ]
      refine anyS_take (v := ?_) 9 (some 22) rfl (by kernel_rfl) (by kernel_rfl) (fun _ _ _ h => h) (by rfl) ?_ hS ?_; rotate_left
      · (intro w' hSw; go_simp; try with_reducible rfl)
      try simp only [Act.put, List.setIfInBounds_toArray, List.set_cons_zero, List.set_cons_succ]
      refine anyS_take (v := ?_) 10 (some 23) rfl (by kernel_rfl) (by kernel_rfl) (fun _ _ _ h => h) (by rfl) ?_ hS ?_; rotate_left
      · (intro w' hSw; obtain ⟨x0, x1, x2, x3⟩ := (hSw.pol 3 rfl).c4 rfl HQ.out hp; go_simp; try with_reducible rfl)
      try simp only [Act.put, List.setIfInBounds_toArray, List.set_cons_zero, List.set_cons_succ]
      have M1 := hI hS
      clear hS
      refine anyS_one 2 (by kernel_rfl) rfl (by rfl) (fun KK hKK => ?_)
      go_simp
      have C := uproduct_any qv x v y wr.drew (M1.out.box 0 rfl).sl (M1.out.box 2 rfl).sl HR.out.2.1 HV.out.2
      rcases hz : mulO v y with er | z
      · rw [hz] at C
        (with_reducible refine C.mono ?_)
        clear C
        rintro e wE ⟨rfl, hb⟩
        have HB := hI (M1.out.on hb).bel
        have HE := hI (show evO l y = .error er from stepsO_err _ _ (show k + 1 ≤ l.length by rw [← HN.out]; omega) (by rw [stepsO_succ, HR.out.2.2]; exact thenO_err hz _))
        clear hb hz
        go_wp2
        exact ⟨rfl, by rw [HE.out]; exact ⟨rfl, HB.out⟩⟩
      · rw [hz] at C
        (with_reducible refine C.mono ?_)
        clear C
        rintro e w2 ⟨q1, rfl, hq, hv, hb⟩
        have V1 := hI (And.intro hv hz)
        have M3 := hI ((M1.out.on hb).addRat hq)
        clear hq hv hb hz M1
        refine hKK.out _ _ (Or.inr (M3.out.drop 1)) ?_
        clear hKK KK 
        try simp only [Act.put, List.setIfInBounds_toArray, List.set_cons_zero, List.set_cons_succ]
        refine anyS_one 11 (by kernel_rfl) rfl (by rfl) (fun KK hKK => ?_)
        go_simp
        have C := usum_any q1 q z _ w2 (M3.out.rat 0 rfl) ((M3.out.pol 4 rfl).ins q (List.mem_of_getElem? HQ.out)) V1.out.1 (HV.out.1.at_ HQ.out)
        rcases hz : addO z (coef l (n - 1 - k)) with er | z2
        · rw [hz] at C
          (with_reducible refine C.mono ?_)
          clear C
          rintro e wE ⟨rfl, hb⟩
          have HB := hI (M3.out.on hb).bel
          have HE := hI (show evO l y = .error er from stepsO_err _ _ (show k + 1 ≤ l.length by rw [← HN.out]; omega) (by rw [stepsO_succ, HR.out.2.2]; exact by show thenO (mulO v y) _ = _; rw [V1.out.2, ← HN.out]; exact hz))
          clear hb hz
          go_wp2
          exact ⟨rfl, by rw [HE.out]; exact ⟨rfl, HB.out⟩⟩
        · rw [hz] at C
          (with_reducible refine C.mono ?_)
          clear C
          rintro e w3 ⟨q2, rfl, hq, hv, hb⟩
          have V2 := hI (And.intro hv hz)
          have M5 := hI ((M3.out.on hb).addRat hq)
          clear hq hv hb hz M3
          refine hKK.out _ _ (Or.inr (M5.out.drop 2)) ?_
          clear hKK KK 
          try simp only [Act.put, List.setIfInBounds_toArray, List.set_cons_zero, List.set_cons_succ]
          obtain ⟨c0, c1, c2, c3⟩ := (M5.out.box 2 rfl).cs
          obtain ⟨f0, f1, f2, f3⟩ := (M5.out.box 2 rfl).fs
          refine anyS_one 12 (by kernel_rfl) rfl (by rfl) (fun KK hKK => ?_)
          go_simp
          refine hKK.out _ _ (Or.inl rfl) ?_
          clear hKK KK c0 c1 c2 c3 f0 f1 f2 f3
          refine anyS_done (by kernel_rfl) ?_
          generalize hU : World.setCell (World.setCell (World.setCell (World.setCell w3 _ _) _ _) _ _) _ _ = U
          have M6 := hI ((M5.out.putU 2 rfl (M5.out.rat 0 rfl) hU).drop 2)
          have HR2 := hI (show VaR w b n (some ad) c L l x y (k + 1) U from ⟨q2, z2, M6.out, V2.out.1, by rw [stepsO_succ, HR.out.2.2]; show thenO (mulO v y) _ = _; rw [V1.out.2, ← HN.out]; exact V2.out.2⟩)
          clear hU M5 M6
          go_wp2
          go_roundw
          case rel => exact ⟨k + 1, by go_num, by omega, HR2⟩
          case measure => simp [intOf]; omega
    · have hkm : k = n := by omega
      subst hkm
      have HE := hI (show evO l y = .ok v by have := HR.out.2.2; rw [← HN.out] at this; unfold evO; rw [← HN.out]; exact this)
      obtain ⟨c0, c1, c2, c3⟩ := (HR.out.1.box 0 rfl).cs
      obtain ⟨d0, d1, d2, d3⟩ := (HR.out.1.box 1 rfl).cs
      obtain ⟨f0, f1, f2, f3⟩ := (HR.out.1.box 1 rfl).fs
      clear hlt hk
      go_wp2
      clear c0 c1 c2 c3 d0 d1 d2 d3 f0 f1 f2 f3
      generalize hU : World.setCell (World.setCell (World.setCell (World.setCell wr _ _) _ _) _ _) _ _ = U
      have M3 := hI (HR.out.1.putU 1 rfl (HR.out.1.box 0 rfl).sl hU)
      clear hU
      obtain ⟨j0, j1, j2, j3⟩ := (M3.out.box 1 rfl).cs
      refine bodyPost_ret (v := .agg #[.bool qv.g, .slice qv.A qv.n qv.c, .bool qv.gd, .slice qv.Ad qv.nd qv.cd]) (by simp [results, Tryz.results76, go_sem, j0, j1, j2, j3]) rfl ?_
      rw [HE.out]
      exact ⟨qv, rfl, (M3.out.box 1 rfl).sl, HR.out.2.1, M3.out.bel⟩
theorem ev_sm (x : Rat) : ∀ (p : List Rat) (n : Nat), p.length ≤ n → ev p x = sm n (fun i => coef p i * x ^ i)
  | [], n, _ => (sm_zero fun i _ => by rw [coef_nil]; grind).symm
  | a :: p, 0, h => absurd h (by rw [List.length_cons]; omega)
  | a :: p, n + 1, h => by
    rw [sm_head, ev, ev_sm x p n (by rw [List.length_cons] at h; omega)]
    rw [show sm n (fun i => coef (a :: p) (i + 1) * x ^ (i + 1)) = sm n (fun i => x * (coef p i * x ^ i)) from sm_congr fun i _ => by rw [coef_succ, Rat.pow_succ]; grind, sm_mul]
    rw [coef_zero, Rat.pow_zero]
    grind
theorem ev_sum {p q r : List Rat} (h : ∀ i, coef r i = coef p i + coef q i) (x : Rat) : ev r x = ev p x + ev q x := by
  have n1 : p.length ≤ max p.length (max q.length r.length) := by omega
  have n2 : q.length ≤ max p.length (max q.length r.length) := by omega
  have n3 : r.length ≤ max p.length (max q.length r.length) := by omega
  rw [ev_sm x p _ n1, ev_sm x q _ n2, ev_sm x r _ n3, ← sm_add]
  exact sm_congr fun i _ => by rw [h i]; grind
theorem qpow_add (x : Rat) (i : Nat) : ∀ j, x ^ (i + j) = x ^ i * x ^ j
  | 0 => by rw [Nat.add_zero, Rat.pow_zero]; grind
  | j + 1 => by rw [← Nat.add_assoc, Rat.pow_succ, Rat.pow_succ, qpow_add x i j]; grind
theorem ev_prod {p q r : List Rat} (h : ∀ i, coef r i = cv (coef p) (coef q) i) (x : Rat) : ev r x = ev p x * ev q x := by
  obtain ⟨K, hK⟩ : ∃ K, K = p.length + q.length + r.length := ⟨_, rfl⟩
  rw [ev_sm x r (K + 1) (by omega), ev_sm x p (K + 1) (by omega), ev_sm x q q.length (Nat.le_refl _)]
  have e1 : sm (K + 1) (fun k => coef r k * x ^ k) = sm (K + 1) (fun i => sm (i + 1) (fun j => (fun j m => coef p j * x ^ j * (coef q m * x ^ m)) j (i - j))) := by
    refine sm_congr fun k _ => ?_
    rw [h k]
    unfold cv
    rw [show sm (k + 1) (fun i => coef p i * coef q (k - i)) * x ^ k = x ^ k * sm (k + 1) (fun i => coef p i * coef q (k - i)) by grind, ← sm_mul]
    refine sm_congr fun i hi => ?_
    show x ^ k * (coef p i * coef q (k - i)) = coef p i * x ^ i * (coef q (k - i) * x ^ (k - i))
    rw [show x ^ k = x ^ i * x ^ (k - i) by rw [← qpow_add]; congr 1; omega]
    grind
  rw [e1, sm_tri (fun j m => coef p j * x ^ j * (coef q m * x ^ m))]
  rw [show sm (K + 1) (fun i => coef p i * x ^ i) * sm q.length (fun i => coef q i * x ^ i) = sm q.length (fun i => coef q i * x ^ i) * sm (K + 1) (fun i => coef p i * x ^ i) by grind, ← sm_mul]
  refine sm_congr fun j hj => ?_
  by_cases hp : p.length ≤ j
  · rw [sm_zero (fun m _ => by rw [coef_past hp]; grind), coef_past hp]; grind
  · rw [sm_mul]
    rw [show K - j + 1 = q.length + (K - j + 1 - q.length) by omega, sm_more _ _ _ (fun i hi _ => by rw [coef_past hi]; grind)]
    grind
theorem coef_take (p : List Rat) (n i : Nat) : coef (p.take n) i = if i < n then coef p i else 0 := by
  unfold coef
  rw [List.getD_eq_getElem?_getD, List.getElem?_take]
  split
  · rw [← List.getD_eq_getElem?_getD]
  · rfl
def shf' (k : Nat) (L : List Rat) (i : Nat) : Rat := if k ≤ i then coef L (i - k) else 0
theorem cv_delta (c : Rat) (k : Nat) (b : Nat → Rat) (i : Nat) : cv (fun j => if j = k then c else 0) b i = if k ≤ i then c * b (i - k) else 0 := by
  rw [cv_comm]
  unfold cv
  by_cases h : k ≤ i
  · rw [if_pos h]
    have e : sm (i + 1) (fun j => b j * (if i - j = k then c else 0)) = sm (i + 1) (fun j => if j = i - k then c * b (i - k) else 0) := by
      refine sm_congr fun j hj => ?_
      by_cases hk : i - j = k
      · rw [if_pos hk, if_pos (by omega), show j = i - k by omega]; grind
      · rw [if_neg hk, if_neg (by omega)]; grind
    rw [e]
    have one : ∀ n m (v : Rat), m < n → sm n (fun j => if j = m then v else 0) = v := by
      intro n
      induction n with
      | zero => intro m v h; omega
      | succ n ih =>
        intro m v hm
        rw [sm]
        by_cases e : m = n
        · subst e
          rw [sm_zero (fun j hj => by rw [if_neg (by omega)]), if_pos rfl]; grind
        · rw [ih m v (by omega), if_neg (by omega)]; grind
    exact one _ _ _ (by omega)
  · rw [if_neg h]
    exact sm_zero fun j hj => by show b j * (if i - j = k then c else 0) = 0; rw [if_neg (by omega)]; grind
theorem cv_cons (c : Rat) (L : List Rat) (k : Nat) (b : Nat → Rat) (i : Nat) : cv (shf' k (c :: L)) b i = cv (shf' (k + 1) L) b i + (if k ≤ i then c * b (i - k) else 0) := by
  rw [← cv_delta, cv_comm (shf' (k + 1) L), cv_comm (fun j => if j = k then c else 0), ← cv_add, cv_comm]
  refine cv_congr (fun _ _ => rfl) fun j _ => ?_
  unfold shf'
  by_cases h1 : k + 1 ≤ j
  · rw [if_pos (by omega), if_pos h1, if_neg (by omega), show j - k = j - (k + 1) + 1 by omega, coef_succ]; grind
  · by_cases h2 : j = k
    · subst h2
      rw [if_pos (Nat.le_refl _), if_neg h1, if_pos rfl, Nat.sub_self, coef_zero]; grind
    · rw [if_neg (by omega), if_neg h1, if_neg h2]; grind
/-- What a step of the division keeps. -/
theorem pdivs_keep {q p : List Rat} (hq : coef q (q.length - 1) ≠ 0) : ∀ (k : Nat) (quot rest : List Rat), rest.length = p.length → k + (q.length - 1) ≤ p.length ∨ k = 0 →
    (∀ i, coef p i = cv (shf' k quot) (coef q) i + (if i < k + (q.length - 1) then coef rest i else 0)) →
    (pdivs q k quot rest).2.length = p.length ∧ (pdivs q k quot rest).1.length = quot.length + k ∧ ∀ i, coef p i = cv (shf' 0 (pdivs q k quot rest).1) (coef q) i + (if i < q.length - 1 then coef (pdivs q k quot rest).2 i else 0)
  | 0, quot, rest, hl, _, h => ⟨hl, rfl, fun i => by have := h i; rwa [Nat.zero_add] at this⟩
  | k + 1, quot, rest, hl, hk, h => by
    have hk' : k + 1 + (q.length - 1) ≤ p.length := by omega
    obtain ⟨d, hd⟩ : ∃ d, q.length - 1 = d := ⟨_, rfl⟩
    have r := pdivs_keep (p := p) hq k ((pstep q k rest).1 :: quot) (pstep q k rest).2 (by show (List.map _ (List.range rest.length)).length = _; rw [List.length_map, List.length_range, hl]) (Or.inl (by omega)) ?_
    · refine ⟨r.1, ?_, r.2.2⟩
      have := r.2.1
      rw [List.length_cons] at this
      show (pdivs q k ((pstep q k rest).1 :: quot) (pstep q k rest).2).1.length = _
      omega
    · intro i
      have hi := h i
      rw [cv_cons]
      rw [hd] at hq hi hk' ⊢
      have c0 : (pstep q k rest).1 = coef rest (k + d) / coef q d := by show coef rest (k + (q.length - 1)) / coef q (q.length - 1) = _; rw [hd]
      have r0 : coef (pstep q k rest).2 i = if i < rest.length then (if k ≤ i ∧ i < k + d then coef rest i - (pstep q k rest).1 * coef q (i - k) else coef rest i) else 0 := by
        rw [c0]
        show coef ((List.range rest.length).map fun j => if k ≤ j ∧ j < k + (q.length - 1) then coef rest j - coef rest (k + (q.length - 1)) / coef q (q.length - 1) * coef q (j - k) else coef rest j) i = _
        rw [hd, coef_map_range]
      rw [hi, r0]
      generalize cv (shf' (k + 1) quot) (coef q) i = s
      generalize hc : (pstep q k rest).1 = c at *
      by_cases a : i < k
      · rw [if_pos (by omega), if_neg (by omega), if_pos (by omega), if_pos (by omega), if_neg (by omega)]; grind
      · by_cases b : i < k + d
        · rw [if_pos (by omega), if_pos (by omega), if_pos (by omega), if_pos (by omega), if_pos ⟨by omega, b⟩]; grind
        · by_cases e : i = k + d
          · subst e
            rw [if_pos (by omega), if_pos (by omega), if_neg (by omega), show k + d - k = d by omega, c0]
            grind
          · rw [if_neg (by omega), if_pos (by omega), if_neg (by omega), coef_past (p := q) (i := i - k) (by omega)]; grind
/-- The division. -/
theorem pdiv_spec {p q : List Rat} (hq : coef q (q.length - 1) ≠ 0) : (∀ i, coef p i = cv (coef (pdiv p q).1) (coef q) i + coef (pdiv p q).2 i) ∧ (pdiv p q).2.length ≤ q.length - 1 ∧ ptrim (pdiv p q).2 = (pdiv p q).2 := by
  obtain ⟨d, hd⟩ : ∃ d, q.length - 1 = d := ⟨_, rfl⟩
  have r := pdivs_keep (p := p) hq (p.length - d) [] p rfl (by omega) (fun i => by
    rw [show cv (shf' (p.length - d) []) (coef q) i = 0 from sm_zero fun j _ => by
      show shf' (p.length - d) [] j * _ = 0
      have : shf' (p.length - d) [] j = 0 := by unfold shf'; split <;> rfl
      rw [this]; grind]
    by_cases h : i < p.length - d + (q.length - 1)
    · rw [if_pos h]; grind
    · rw [if_neg h, coef_past (p := p) (by omega)]; grind)
  refine ⟨fun i => ?_, ?_, ptrim_idem _⟩
  · have k := r.2.2 i
    rw [k]
    show _ = cv (coef (pdivs q (p.length - (q.length - 1)) [] p).1) (coef q) i + coef (ptrim ((pdivs q (p.length - (q.length - 1)) [] p).2.take (min (q.length - 1) p.length))) i
    rw [ptrim_coef, coef_take, hd]
    congr 1
    by_cases h : i < d
    · rw [if_pos h]
      by_cases h2 : i < p.length
      · rw [if_pos (by omega)]
      · rw [if_neg (by omega), coef_past (by rw [r.1]; omega)]
    · rw [if_neg h, if_neg (by omega)]
  · have a := ptrim_len ((pdivs q (p.length - (q.length - 1)) [] p).2.take (min (q.length - 1) p.length))
    rw [List.length_take] at a
    show (ptrim ((pdivs q (p.length - (q.length - 1)) [] p).2.take (min (q.length - 1) p.length))).length ≤ _
    omega
theorem ev_padd (p q : List Rat) (x : Rat) : ev (padd p q) x = ev p x + ev q x := ev_sum (padd_coef p q) x
theorem ev_pmul (p q : List Rat) (x : Rat) : ev (pmul p q) x = ev p x * ev q x := ev_prod (pmul_coef p q) x
theorem ev_compose (q : List Rat) (x : Rat) : ∀ p : List Rat, ev (pcompose p q) x = ev p (ev q x)
  | [] => rfl
  | a :: p => by
    rw [pcompose, ev_padd, ev_pmul, ev_compose q x p]
    show ev p (ev q x) * ev q x + (0 * x + a) = ev p (ev q x) * ev q x + a
    grind
/-- The division of the laws. -/
theorem pdiv_mul {p q : List Rat} (hp : ptrim p = p) (hq : ptrim q = q) (h : q ≠ []) : padd (pmul (pdiv p q).1 q) (pdiv p q).2 = p ∧ (pdiv p q).2.length < q.length := by
  have c : coef q (q.length - 1) ≠ 0 := (trim_iff.1 hq).resolve_left h
  have s := pdiv_spec (p := p) c
  refine ⟨ptrim_self (padd_trim _ _) hp fun i => by rw [padd_coef, pmul_coef, s.1 i], ?_⟩
  have : q.length ≠ 0 := fun k => h (List.eq_nil_of_length_eq_zero k)
  have := s.2.1
  omega
set_option linter.unusedSimpArgs false in
set_option linter.unusedVariables false in
set_option maxRecDepth 20000 in
set_option maxHeartbeats 4000000 in
theorem cl_Eval (p p' : Nat) (A : Option Addr) (n c : Nat) (L : List RVal) (a : List Rat) (x : RVal) (y : Rat) (w : World) (hb : Blk w p 22 #[.slice A n c]) (hb' : Rb w p' x) (h : PSl w A n c L) (hv : Vs L a) (hn : n ≤ 1000) (hy : x.v = some y) :
    Calls Tryz.prog 74 #[.pointer (some ⟨p', 0, none⟩), .pointer (some ⟨p, 0, none⟩)] w (OutW (evO a y) w) := by
  have M := hI ((((Mem.nil w).old (x := .pol A n c L) (by simp) h rfl).old (x := .rat x) (by simp [Rs.own]) hb'.sl rfl).newNil _ rfl)
  have hn0 := below_new w (.cells #[.bool false, .slice none 0 0, .bool false, .slice none 0 0] 27)
  obtain ⟨x0, x1, x2, x3⟩ := (hb'.on hn0).cs
  have HX := hI (And.intro (hb'.on hn0) (Blk.below hb hn0 (Blk.lt hb)))
  have HC := hI fun (W : World) (h : PSl W A n c L) (hx : x.In W) => uval_any A n c L a x y W h hv hx hy (by omega)
  have HY := hI hy
  generalize evO a y = r at *
  clear hb h hv hb' hy hn0
  go_enter Tryz.func74, Tryz.ntmps74
  go_wp2_with fail
  clear x0 x1 x2 x3
  generalize hW : World.alloc w _ = V at *
  clear hW
  have C := ratValid_r (q := x) (w := V) (M.out.rat 1 rfl)
  rw [show rv x.o x.od = some y from HY.out] at C
  refine C.mono ?_
  clear C
  rintro e w1 ⟨rfl, hb⟩
  have M1 := hI (M.out.on hb)
  obtain ⟨x0, x1, x2, x3⟩ := (HX.out.1.on hb).cs
  have x4 := Blk.cell (Blk.below HX.out.2 hb (Blk.lt HX.out.2)) 0
  simp only [List.getElem?_toArray, List.getElem?_cons_zero] at x4
  clear hb
  go_wp2_with fail
  clear x0 x1 x2 x3 x4
  have C := HC.out w1 (M1.out.pol 2 rfl) (M1.out.rat 1 rfl)
  rcases r with er | l
  · refine C.mono ?_
    clear C
    rintro e wE ⟨rfl, hb⟩
    have HB := hI (M1.out.on hb).bel
    clear hb
    go_wp2
    exact ⟨rfl, rfl, HB.out⟩
  · refine C.mono ?_
    clear C
    rintro e w2 ⟨q, rfl, hq, hv, hb⟩
    have M2 := hI ((M1.out.on hb).addRat hq)
    have HV := hI hv
    clear hq hv hb
    obtain ⟨c0, c1, c2, c3⟩ := (M2.out.box 1 rfl).cs
    obtain ⟨f0, f1, f2, f3⟩ := (M2.out.box 1 rfl).fs
    go_wp2
    clear c0 c1 c2 c3 f0 f1 f2 f3
    generalize hU : World.setCell (World.setCell (World.setCell (World.setCell w2 _ _) _ _) _ _) _ _ = U
    have M9 := hI (M2.out.putU 1 rfl (M2.out.rat 0 rfl) hU)
    clear hU
    obtain ⟨j0, j1, j2, j3⟩ := (M9.out.box 1 rfl).cs
    refine bodyPost_ret (v := .agg #[.bool q.g, .slice q.A q.n q.c, .bool q.gd, .slice q.Ad q.nd q.cd]) (by simp [results, Tryz.results74, go_sem, j0, j1, j2, j3]) rfl ?_
    exact ⟨q, rfl, (M9.out.box 1 rfl).sl, HV.out, M9.out.bel⟩
set_option linter.unusedSimpArgs false in
set_option linter.unusedVariables false in
set_option maxRecDepth 20000 in
set_option maxHeartbeats 4000000 in
theorem Eval_any (A : Option Addr) (n c : Nat) (a : List Rat) (x : RVal) (y : Rat) (w : World) (h : PV w A n c a) (hx : x.In w) (hy : x.v = some y) (ta : Tr a) (la : a.length ≤ 65) :
    Calls Tryz.prog 30 #[.slice A n c, .agg #[.bool x.g, .slice x.A x.n x.c, .bool x.gd, .slice x.Ad x.nd x.cd]] w (AttN (evO a y) w) := by
  have hmf : ∀ (fn : Fn) (first cap : Array Value) (w : World), (Instr.makeFunc fn first cap).run Tryz.prog w = .ok (.func fn first cap) w := fun _ _ _ _ => rfl
  obtain ⟨L, h, hv⟩ := h
  have HCK := hI (chk_ok h hv ta la)
  have HN := hI (show n ≤ 1000 ∧ n ≤ 65 from ⟨by rw [← h.len, hv.len]; omega, by rw [← h.len, hv.len]; omega⟩)
  have HV := hI (And.intro hv hy)
  have M := hI (((((((Mem.nil w).old (x := .pol A n c L) (by simp) h rfl).old (x := .rat x) (by simp [Rs.own]) hx rfl).newCel (t := 22) (noUs1 A n c) _ rfl).newBox (q := x) (hx.on (below_new _ _)) (w.heap.size + 1) (by simp)).newNil (w.heap.size + 1 + 1) (by simp)).newCel (t := 22) (noUs1 A n c) (w.heap.size + 1 + 1 + 1) (by simp))
  clear h hv ta hx hy
  go_enter Tryz.func30, Tryz.ntmps30
  go_wp2_with fail
  generalize hW : World.alloc (World.alloc (World.alloc (World.alloc w _) _) _) _ = V at *
  clear hW
  have C := attW_any 74 #[.pointer (some ⟨w.heap.size + 1, 0, none⟩), .pointer (some ⟨w.heap.size, 0, none⟩)] (w.heap.size + 1 + 1 + 1) 1 1 _ (evO a y) V (polys1 (M.out.cel 0 rfl).1 (M.out.pol 5 rfl) (by have := HN.out; omega)) (by decide) (Nat.le_refl _) (fun k hk => HCK.out) (Or.inl rfl) (hI fun W hb => cl_Eval w.heap.size (w.heap.size + 1) A n c L a x y W ((M.out.on hb).cel 3 rfl).1 ((M.out.on hb).box 2 rfl) ((M.out.on hb).pol 5 rfl) HV.out.1 HN.out.1 HV.out.2)
  have HC := hI C
  generalize evO a y = r at *
  clear C
  rcases r with er | l
  · refine HC.out.mono ?_
    rintro e w1 ⟨rfl, hb⟩
    have M1 := hI (M.out.on hb)
    clear hb
    obtain ⟨c0, c1, c2, c3⟩ := (M1.out.box 1 rfl).cs
    obtain ⟨f0, f1, f2, f3⟩ := (M1.out.box 1 rfl).fs
    go_wp2
    clear c0 c1 c2 c3 f0 f1 f2 f3
    generalize hU : World.setCell (World.setCell (World.setCell (World.setCell w1 _ _) _ _) _ _) _ _ = U
    have M9 := hI (M1.out.putU (q := RVal.nil) 1 rfl (RVal.nil_in _) hU)
    clear hU
    obtain ⟨j0, j1, j2, j3⟩ := (M9.out.box 1 rfl).cs
    simp only [RVal.nil] at j0 j1 j2 j3
    refine bodyPost_ret (v := .tuple #[.agg #[.bool false, .slice none 0 0, .bool false, .slice none 0 0], .int .i64 er]) (by simp [results, Tryz.results30, go_sem, j0, j1, j2, j3]) rfl ?_
    exact ⟨rfl, M9.out.bel⟩
  · refine HC.out.mono ?_
    rintro e w1 ⟨q, rfl, hq, hv, hb⟩
    have M1 := hI ((M.out.on hb).addRat hq)
    have HV1 := hI hv
    clear hq hv hb
    obtain ⟨c0, c1, c2, c3⟩ := (M1.out.box 2 rfl).cs
    obtain ⟨f0, f1, f2, f3⟩ := (M1.out.box 2 rfl).fs
    go_wp2
    clear c0 c1 c2 c3 f0 f1 f2 f3
    generalize hU : World.setCell (World.setCell (World.setCell (World.setCell w1 _ _) _ _) _ _) _ _ = U
    have M9 := hI (M1.out.putU 2 rfl (M1.out.rat 0 rfl) hU)
    clear hU
    obtain ⟨j0, j1, j2, j3⟩ := (M9.out.box 2 rfl).cs
    refine bodyPost_ret (v := .tuple #[.agg #[.bool q.g, .slice q.A q.n q.c, .bool q.gd, .slice q.Ad q.nd q.cd], .int .i64 0]) (by simp [results, Tryz.results30, go_sem, j0, j1, j2, j3]) rfl ?_
    exact ⟨q, rfl, (M9.out.box 2 rfl).sl, HV1.out, M9.out.bel⟩
/-- The rest of a division by x - n is the value at n. -/
theorem pdiv_lin {p : List Rat} (n : Rat) : (pdiv p [-n, 1]).2 = ptrim [ev p n] := by
  have c : coef [-n, 1] ([-n, 1].length - 1) ≠ 0 := by show (1 : Rat) ≠ 0; decide
  have s := pdiv_spec (p := p) c
  rw [← s.2.2]
  refine ptrim_ext fun i => ?_
  have l : (pdiv p [-n, 1]).2.length ≤ 1 := s.2.1
  have v : ev p n = ev (pdiv p [-n, 1]).1 n * ev [-n, 1] n + ev (pdiv p [-n, 1]).2 n := by
    rw [← ev_pmul]
    exact ev_sum (fun i => by rw [pmul_coef]; exact s.1 i) n
  have z : ev [-n, 1] n = 0 := by show (0 * n + 1) * n + -n = 0; grind
  rw [z] at v
  cases i with
  | zero =>
    rw [coef_zero, v]
    rcases hr : (pdiv p [-n, 1]).2 with _ | ⟨a, t⟩
    · show (0 : Rat) = _ * 0 + 0; grind
    · rw [hr] at l
      have : t = [] := by cases t with
        | nil => rfl
        | cons _ _ => rw [List.length_cons, List.length_cons] at l; omega
      subst this
      show a = _ * 0 + (0 * n + a)
      grind
  | succ i => rw [coef_succ, coef_past (by omega), coef_nil]
/-- How great the value at an integer may be. -/
def vb (A X : Nat) : Nat → Nat
  | 0 => 0
  | k + 1 => vb A X k + vb A X k * X + A
theorem vb_mono (A X : Nat) {k n : Nat} (h : k ≤ n) : vb A X k ≤ vb A X n := by
  induction n with
  | zero => rw [Nat.le_zero.1 h]; exact Nat.le_refl _
  | succ n ih =>
    rcases Nat.lt_or_ge k (n + 1) with g | g
    · have := ih (by omega)
      show _ ≤ vb A X n + vb A X n * X + A
      omega
    · rw [show k = n + 1 by omega]; exact Nat.le_refl _
theorem evO_ok {p : List Rat} {n A X : Nat} {x : Rat} (hp : IbL A p) (hn : p.length ≤ n) (hx : Ib X x) (h : vb A X n < BIG) : evO p x = .ok (ev p x) ∧ Ib (vb A X n) (ev p x) := by
  have key : ∀ k, k ≤ p.length → stepsO (fun i v => thenO (mulO v x) fun t => addO t (coef p (p.length - 1 - i))) 0 k = .ok (ev (p.drop (p.length - k)) x) ∧ Ib (vb A X k) (ev (p.drop (p.length - k)) x) := by
    intro k
    induction k with
    | zero =>
      intro _
      rw [Nat.sub_zero, List.drop_length]
      exact ⟨rfl, Ib.zero _⟩
    | succ k ih =>
      intro hk
      obtain ⟨e, kn⟩ := ih (by omega)
      have hc := Nat.lt_of_le_of_lt (vb_mono A X (Nat.le_trans hk hn)) h
      have hc2 : vb A X k + vb A X k * X + A < BIG := hc
      rw [drop_step p (k := k) (by omega)]
      refine ⟨?_, ((kn.mul hx).add (hp _)).mono (by show _ ≤ vb A X k + vb A X k * X + A; omega)⟩
      rw [stepsO_succ, thenO_ok e, thenO_ok (mulO_ok kn hx (by omega)), addO_ok (kn.mul hx) (hp _) (by omega)]
      rfl
  obtain ⟨e, kn⟩ := key p.length (Nat.le_refl _)
  rw [Nat.sub_self, List.drop_zero] at e kn
  exact ⟨e, kn.mono (vb_mono A X hn)⟩
end Go.Proofs.YtjbnclfbkccieaaGreatDoor
