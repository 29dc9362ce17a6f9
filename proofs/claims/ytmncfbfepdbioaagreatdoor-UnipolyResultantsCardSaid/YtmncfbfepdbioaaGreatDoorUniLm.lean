/-
 Stage 3: a row of rationals that a call makes and fills; the program's combine. A region that draws its order, and whose last operations write what its first ones load: what is known of memory is kept by all operations but the late ones. Stage 3: the program's valueAt. Stage 3: the program's power, derivative and monic. Stage 3: the program's multiply. Stage 3: the program's compose. A region that draws its order: what is known of memory is kept until a late operation has come up; an operation that waits for nothing of the late ones may come behind them.
-/
import Derived.OwnWalk
import Derived.Laws.MakeOwn
import Derived.Test.YtmncfbfepdbioaaGreatDoorPolE
import Derived.Test.YtmncfbfepdbioaaGreatDoorLate
set_option linter.unusedSimpArgs false
set_option maxRecDepth 20000
set_option maxHeartbeats 4000000
namespace Go.Proofs.YtmncfbfepdbioaaGreatDoor
open Go.RowKit
theorem Rat_info : (Tryz.prog.info? 27).map (fun i => (i.zero, i.size, i.bytes)) = some (some (.agg #[.bool false, .slice none 0 0, .bool false, .slice none 0 0]), 4, 64) := by kernel_rfl
def nils (m : Nat) : Array Value := (qcells (List.replicate m RVal.nil)).toArray
theorem nil_cells (m : Nat) : madeCells (Value.agg #[.bool false, .slice none 0 0, .bool false, .slice none 0 0]).cells (m * 4) = nils m := by
 apply Array.ext_getElem?
 intro i
 have e : ∀ (m i : Nat), i < m * 4 -> (qcells (List.replicate m RVal.nil))[i]? = some ((#[.bool false, .slice none 0 0, .bool false, .slice none 0 0] : Array Value)[i % 4]!) := by
  intro m
  induction m with
  | zero => intro i h; omega
  | succ m ih =>
    intro i h
    rw [List.replicate_succ, qcells_cons]
    by_cases hi : i < 4
    . have : i = 0 \/ i = 1 \/ i = 2 \/ i = 3 := by omega
      rcases this with rfl | rfl | rfl | rfl <;> rfl
    . rw [List.getElem?_append_right (by show 4 <= i; omega)]
      have := ih (i - 4) (by omega)
      rw [show (i - 4) % 4 = i % 4 by omega] at this
      exact this
 unfold nils madeCells
 have k : (qcells (List.replicate m RVal.nil)).toArray[i]? = (qcells (List.replicate m RVal.nil))[i]? := List.getElem?_toArray ..
 rw [Array.getElem?_map, k]
 by_cases h : i < m * 4
 . rw [e m i h, Array.getElem?_eq_getElem (by rw [Array.size_range]; exact h), Array.getElem_range]
   rfl
 . rw [List.getElem?_eq_none (by rw [qcells_len, List.length_replicate]; omega), Array.getElem?_eq_none (by rw [Array.size_range]; omega)]
   rfl
theorem make_rats (w : World) (m : Nat) (hm : m <= 1000000) : (Instr.makeSlice 22 (.int .i64 (m : Int)) (.int .i64 (m : Int))).run Tryz.prog w = .ok (.slice (some ⟨w.heap.size, 0, none⟩) m m) (w.alloc (.cells (nils m) 27)) := by
 obtain ⟨i0, hi, hz0, hz1, hz2⟩ := info_parts Rat_info
 have := run_make (P := Tryz.prog) w 22 27 i0 _ Tryz.underlying22 hi hz0 .i64 .i64 (m : Int) (m : Int) (by omega) (by omega) (by rw [hz2]; omega) (by omega)
 rw [Int.toNat_natCast, hz1, nil_cells] at this
 exact this
theorem Mem.newRow {w0 w : World} {l : List Rs} (h : Mem w0 w l) (m r : Nat) (hr : w.heap.size = r) : Mem w0 (w.alloc (.cells (nils m) 27)) (.arr r (List.replicate m RVal.nil) :: l) := by
 subst hr
 exact h.push (x := .arr w.heap.size (List.replicate m RVal.nil)) (below_new _ _) ⟨Blk.new w _ _, fun q k => by rw [List.eq_of_mem_replicate k]; exact RVal.nil_in _⟩ rfl (Nat.le_refl _)
theorem Mem.rowAt {w0 w : World} {l : List Rs} (h : Mem w0 w l) (i : Nat) {r : Nat} {L : List RVal} (hx : l[i]? = some (.arr r L)) {k : Nat} {q : RVal} (hq : L[k]? = some q) :
 (w.cell? ⟨r, k * 4, none⟩ = some (.bool q.g) /\ w.cell? ⟨r, k * 4 + 1, none⟩ = some (.slice q.A q.n q.c) /\ w.cell? ⟨r, k * 4 + 2, none⟩ = some (.bool q.gd) /\ w.cell? ⟨r, k * 4 + 3, none⟩ = some (.slice q.Ad q.nd q.cd)) ∧
 w.frozen? ⟨r, k * 4, none⟩ = false /\ w.frozen? ⟨r, k * 4 + 1, none⟩ = false /\ w.frozen? ⟨r, k * 4 + 2, none⟩ = false /\ w.frozen? ⟨r, k * 4 + 3, none⟩ = false := by
 have hb := (h.arr i hx).1
 obtain ⟨a, b, c, d⟩ := qcells_at hq
 have e : ∀ j u, (qcells L)[j]? = some u -> w.cell? ⟨r, j, none⟩ = some u := fun j u hu => by rw [Blk.cell hb j, List.getElem?_toArray]; exact hu
 exact ⟨⟨e _ _ a, e _ _ b, e _ _ c, e _ _ d⟩, Blk.frozen hb _, Blk.frozen hb _, Blk.frozen hb _, Blk.frozen hb _⟩
theorem Mem.putRowU {w0 w U : World} {l : List Rs} (h : Mem w0 w l) (i : Nat) {r : Nat} {L : List RVal} {q : RVal} (hx : l[i]? = some (.arr r L)) {k : Nat} (hk : k < L.length) (hq : q.In w)
 (hU : (((w.setCell ⟨r, k * 4, none⟩ (.bool q.g)).setCell ⟨r, k * 4 + 1, none⟩ (.slice q.A q.n q.c)).setCell ⟨r, k * 4 + 2, none⟩ (.bool q.gd)).setCell ⟨r, k * 4 + 3, none⟩ (.slice q.Ad q.nd q.cd) = U) : Mem w0 U (l.set i (.arr r (L.set k q))) := hU ▸ h.putRow i hx hk hq
def Fill (L : List RVal) (l : List Rat) (m : Nat) : Prop := L.length = m /\ Vs (L.take l.length) l
theorem Fill.nil (m : Nat) : Fill (List.replicate m RVal.nil) [] m := ⟨List.length_replicate .., rfl⟩
theorem Fill.put {L : List RVal} {l : List Rat} {m : Nat} (h : Fill L l m) (hm : l.length < m) {q : RVal} {x : Rat} (hx : q.v = some x) : Fill (L.set l.length q) (l ++ [x]) m := by
 refine ⟨by rw [List.length_set]; exact h.1, ?_⟩
 have h2 := h.2
 unfold Vs at h2 ⊢
 have hl : l.length < (L.set l.length q).length := by rw [List.length_set, h.1]; exact hm
 rw [List.length_append, List.length_singleton, List.take_succ_eq_append_getElem hl, List.map_append, List.map_append, List.getElem_set_self, List.take_set_of_le (Nat.le_refl _), h2, List.map_singleton, List.map_singleton, hx]
theorem Fill.done {L : List RVal} {l : List Rat} {m : Nat} (h : Fill L l m) (hm : l.length = m) : Vs L l := by
 have := h.2
 rw [hm, <- h.1, List.take_length] at this
 exact this
def RetP (l : List Rat) (w : World) (e : Ending) (w' : World) : Prop := ∃ (A : Option Addr) (n c : Nat) (L : List RVal), e = .returned (.slice A n c) /\ PSl w' A n c L /\ Vs L l /\ (∀ ad, A = some ad -> w.heap.size <= ad.block) /\ Below w.heap.size w w'
theorem fresh_row {w : World} {r : Nat} (h : w.heap.size = r) : ∀ ad : Addr, some ⟨r, 0, none⟩ = some ad -> w.heap.size <= ad.block := fun ad e => by injection e with e; subst e; exact Nat.le_of_eq h
theorem Mem.addPol {w0 w w' : World} {l : List Rs} (h : Mem w0 w l) (hb : Below w.heap.size w w') {A : Option Addr} {n c : Nat} {L : List RVal} (hp : PSl w' A n c L) (hf : ∀ ad, A = some ad -> w.heap.size <= ad.block) : Mem w0 w' (.pol A n c L :: l) :=
 (h.on hb).cons (x := .pol A n c L) hp rfl fun y k r e _ ad hA => by have := (h.all y k).lt e; have := hf ad hA; omega
def OutP (r : Except Int (List Rat)) (w : World) (e : Ending) (w' : World) : Prop := match r with
 | .ok l => RetP l w e w'
 | .error er => PanW er w e w'
end Go.Proofs.YtmncfbfepdbioaaGreatDoor
namespace Go.Proofs.YtmncfbfepdbioaaGreatDoor
open Go
section
variable {P : Program} {ops : Array Oper} {Q : Exit -> Act -> World -> Prop} {md : Region.Mode} {S : World -> Prop} {late : List Nat}
def lateLvl (late : List Nat) (i : Nat) : Nat := if late.contains i then 1 else 0
def AnyS (P : Program) (md : Region.Mode) (ops : Array Oper) (Q : Exit -> Act -> World -> Prop) (S : World -> Prop) (late : List Nat) := AnyL P md ops Q (fun j w => j = 0 -> S w) (lateLvl late)
theorem anyS_start {id : Nat} {a : Act} {w : World} (S : World -> Prop) (late : List Nat) (n : Nat) (hn : (ops.size == n) = true) (hm : P.follows .mixedOrders = true) (h : AnyS P .any ops Q S late n (Array.replicate n false) a w.drew) : (Code.region id ops true).wp P Q a w := by
 rw [<- beq_iff_eq.1 hn] at h
 exact anyL_start _ (lateLvl late) hm h
theorem anyS_take (i : Nat) (d : Option Tmp) {oi : Oper} {v : Value} {k : Nat} {l : Array Bool} {a : Act} {w : World} (hi : ops[i]? = some oi) (hk : (Region.noSelect ops && Region.free md ops l i && keepsAll md ops (lateLvl late) l i && (Region.ready md ops l).contains i && lateLvl late i == 0) = true)
 (hd : (oi.dst == d) = true) (hQ : ∀ c a w, Q (.panic c) (a.put d v) w -> Q (.panic c) a w) (hw : Region.wanted oi (yielded ops a.tmps) = true) (hy : ∀ w, S w -> (execOp a.eval oi).run P w = .ok (.value v) w) (hS : S w)
 (h : AnyS P md ops Q S late k (l.setIfInBounds i true) (a.put d v) w) : AnyS P md ops Q S late (k + 1) l a w := by
 simp only [Bool.and_eq_true, beq_iff_eq] at hk hd
 subst hd
 exact anyL_take (fun m n w h k e => k (by omega)) i hi hk.1.1.1.1 hk.1.1.1.2 hk.1.1.2 hk.1.2 hQ (Or.inl ⟨hw, fun w s => hy w (s hk.2)⟩) (fun _ => hS) h
theorem anyS_one (i : Nat) {o : Oper} {k : Nat} {l : Array Bool} {a : Act} {w : World} (hr : Region.ready md ops l = [i]) (ho : ops[i]? = some o) (hw : Region.wanted o (yielded ops a.tmps) = true)
 (h : ∀ K' : Act -> World -> Prop, Shut (∀ a w, ((late.contains i = true) \/ S w) -> AnyS P md ops Q S late k (l.setIfInBounds i true) a w -> K' a w) -> Oper.wp P o a w K' Q) : AnyS P md ops Q S late (k + 1) l a w := by
 refine anyL_one i hr ho fun K' hK => ?_
 rw [if_pos hw]
 refine h K' (fun a w hs ha => hK a w (fun e => ?_) ha)
 rcases hs with hs | hs
 . unfold lateLvl at e; rw [if_pos hs] at e; cases e
 . exact hs
theorem anyS_done {k : Nat} {l : Array Bool} {a : Act} {w : World} (hr : Region.ready md ops l = []) (h : Q .normal a w) : AnyS P md ops Q S late k l a w := anyL_done hr h k
end
end Go.Proofs.YtmncfbfepdbioaaGreatDoor
namespace Go.Proofs.YtmncfbfepdbioaaGreatDoor
open Go.RowKit
end Go.Proofs.YtmncfbfepdbioaaGreatDoor
namespace Go.Proofs.YtmncfbfepdbioaaGreatDoor
open Go.RowKit
def PoR (w : World) (b : Nat) (q : RVal) (y : Rat) (k : Nat) (wr : World) : Prop :=
 ∃ (qv : RVal) (v : Rat), Mem w wr [.box b qv, .box (w.heap.size + 1) RVal.nil, .box w.heap.size q] /\ qv.v = some v /\ powO y k = .ok v
def RowR (w : World) (tl : List Rs) (g : Nat -> Except Int Rat) (m r k : Nat) (wr : World) : Prop :=
 ∃ (R : List RVal) (l : List Rat), Mem w wr (.arr r R :: tl) /\ Fill R l m /\ listO g k = .ok l
theorem RowR.next {w U : World} {tl : List Rs} {g : Nat -> Except Int Rat} {m r k : Nat} {R : List RVal} {l : List Rat} {q : RVal} {x : Rat} (hM : Mem w U (.arr r (R.set k q) :: tl)) (hF : Fill R l m) (hg : listO g k = .ok l) (hk : k < m) (hv : q.v = some x) (hx : g k = .ok x) : RowR w tl g m r (k + 1) U := by
 have hl := listO_len hg
 refine ⟨R.set k q, l ++ [x], hM, ?_, ?_⟩
 . have := hF.put (by rw [hl]; exact hk) hv
   rw [hl] at this
   exact this
 . show thenO (listO g k) _ = _
   rw [hg]
   show thenO (g k) _ = _
   rw [hx]
   rfl
theorem listO_err {g : Nat -> Except Int Rat} {m k : Nat} {l : List Rat} {er : Int} (hk : k < m) (hg : listO g k = .ok l) (he : g k = .error er) : listO g m = .error er :=
 stepsO_err _ _ (show k + 1 <= m by omega) (by rw [stepsO_succ, show stepsO _ _ k = .ok l from hg]; exact thenO_err he _)
theorem row_done {w wr : World} {tl : List Rs} {R : List RVal} {l : List Rat} {m r : Nat} {g : Nat -> Except Int Rat} (hM : Mem w wr (.arr r R :: tl)) (hF : Fill R l m) (hg : listO g m = .ok l) (hm : m <= 1000000) : PSl wr (some ⟨r, 0, none⟩) m m R /\ Vs R l := by
 have := psl_arr (hM.arr 0 rfl) (by rw [hF.1]; omega)
 rw [hF.1] at this
 exact ⟨this, hF.done (listO_len hg)⟩
theorem upow_any (q : RVal) (y : Rat) (n : Nat) (w : World) (h : q.In w) (hv : q.v = some y) (hn : n <= 100000) :
 Calls Tryz.prog 135 #[.agg #[.bool q.g, .slice q.A q.n q.c, .bool q.gd, .slice q.Ad q.nd q.cd], .int .i64 (n : Int)] w (OutW (powO y n) w) := by
 have M := hI ((((Mem.nil w).old (x := .rat q) (by simp) h rfl).newBox h _ rfl).newNil (w.heap.size + 1) (by simp))
 have HV := hI hv
 clear h hv
 go_enter Tryz.func135, Tryz.ntmps135
 go_wp2_with fail
 generalize hW : World.alloc (World.alloc w _) _ = V at *
 clear hW
 refine (unumber_any 1 V (by decide) (by decide)).mono ?_
 rintro e w1 ⟨q0, rfl, hq, hv, hb⟩
 have M1 := hI ((M.out.on hb).newBox hq _ rfl)
 have H0 := hI (show PoR w w1.heap.size q y 0 (w1.alloc (.cells #[.bool q0.g, .slice q0.A q0.n q0.c, .bool q0.gd, .slice q0.Ad q0.nd q0.cd] 27)) from ⟨q0, 1, M1.out.sub (by simp), by show rv q0.o q0.od = _; rw [hv]; rfl, rfl⟩)
 clear hq hv hb M M1
 go_wp2_with fail
 go_loopw [8] (fun v wr => ∃ k : Nat, v = .int .i64 k /\ k <= n /\ Hid (PoR w w1.heap.size q y k wr)) (fun v _ => n - (intOf v).toNat)
 case atStart => exact ⟨0, rfl, Nat.zero_le _, H0⟩
 case round =>
  obtain ⟨k, rfl, hk, HR⟩ := hrel
  clear H0
  obtain ⟨qv, v, HR⟩ := HR.out
  have HR := hI HR
  obtain ⟨b, hb⟩ : ∃ b : Nat, w1.heap.size = b := ⟨_, rfl⟩
  rw [hb] at HR
  simp only [hb]
  clear hb
  by_cases hlt : k < n
  . skip
    obtain ⟨c0, c1, c2, c3⟩ := (HR.out.1.box 0 rfl).cs
    obtain ⟨d0, d1, d2, d3⟩ := (HR.out.1.box 2 rfl).cs
    go_wp2_with fail
    clear c0 c1 c2 c3 d0 d1 d2 d3
    have C := uproduct_any qv q v y wr (HR.out.1.box 0 rfl).sl (HR.out.1.box 2 rfl).sl HR.out.2.1 HV.out
    rcases hz : mulO v y with er | z
    . rw [hz] at C
      (with_reducible refine C.mono ?_)
      clear C
      rintro e wE ⟨rfl, hb⟩
      have HB := hI ((hI HR.out.1).out.on hb).bel
      have HE := hI (show powO y n = .error er from stepsO_err _ _ (show k + 1 <= n by omega) (by rw [stepsO_succ, show stepsO _ _ k = .ok v from HR.out.2.2]; exact hz))
      clear hb hz
      go_wp2
      exact ⟨rfl, by rw [HE.out]; exact ⟨rfl, HB.out⟩⟩
    . rw [hz] at C
      (with_reducible refine C.mono ?_)
      clear C
      rintro e w2 ⟨q2, rfl, hq, hv, hb⟩
      have V2 := hI (And.intro hv hz)
      have M2 := hI (((hI HR.out.1).out.on hb).addRat hq)
      clear hq hv hb hz 
      obtain ⟨c0, c1, c2, c3⟩ := (M2.out.box 1 rfl).cs
      obtain ⟨f0, f1, f2, f3⟩ := (M2.out.box 1 rfl).fs
      go_wp2
      clear c0 c1 c2 c3 f0 f1 f2 f3
      generalize hU : World.setCell (World.setCell (World.setCell (World.setCell w2 _ _) _ _) _ _) _ _ = U
      have M3 := hI ((M2.out.putU 1 rfl (M2.out.rat 0 rfl) hU).drop 1)
      have HR2 := hI (show PoR w b q y (k + 1) U from ⟨q2, z, M3.out, V2.out.1, by unfold powO at *; rw [stepsO_succ, HR.out.2.2]; exact V2.out.2⟩)
      clear hU M2 M3
      go_roundw
      case rel => exact ⟨k + 1, by go_num, by omega, HR2⟩
      case measure => simp [intOf]; omega
  . have hkm : k = n := by omega
    subst hkm
    have HE := hI (show powO y k = .ok v from HR.out.2.2)
    obtain ⟨c0, c1, c2, c3⟩ := (HR.out.1.box 0 rfl).cs
    obtain ⟨d0, d1, d2, d3⟩ := (HR.out.1.box 1 rfl).cs
    obtain ⟨f0, f1, f2, f3⟩ := (HR.out.1.box 1 rfl).fs
    clear hlt hk
    go_wp2
    clear c0 c1 c2 c3 d0 d1 d2 d3 f0 f1 f2 f3
    generalize hU : World.setCell (World.setCell (World.setCell (World.setCell wr _ _) _ _) _ _) _ _ = U
    have M3 := hI (HR.out.1.putU 1 rfl (HR.out.1.box 0 rfl).sl hU)
    clear hU
    obtain ⟨j0, j1, j2, j3⟩ := (M3.out.box 1 rfl).cs
    refine bodyPost_ret (v := .agg #[.bool qv.g, .slice qv.A qv.n qv.c, .bool qv.gd, .slice qv.Ad qv.nd qv.cd]) (by simp [results, Tryz.results135, go_sem, j0, j1, j2, j3]) rfl ?_
    rw [HE.out]
    exact ⟨qv, rfl, (M3.out.box 1 rfl).sl, HR.out.2.1, M3.out.bel⟩
theorem umonic_any (A : Option Addr) (n c : Nat) (L : List RVal) (l : List Rat) (w : World) (h : PSl w A n c L) (hv : Vs L l) (hn : n <= 100000) (h0 : l = [] \/ coef l (l.length - 1) ≠ 0) :
 Calls Tryz.prog 93 #[.slice A n c] w (OutP (monicO l) w) := by
 have HV := hI hv
 have HN := hI (show n = l.length by rw [<- hv.len, h.len])
 have H0' := hI h0
 clear h0
 have hmk := fun w => make_rats w n (by omega)
 have M := hI (((Mem.nil w).old (x := .pol A n c L) (by simp) h rfl).newRow n _ rfl)
 obtain ⟨g, hg⟩ : ∃ g : Nat -> Except Int Rat, (fun i => divO (coef l i) (coef l (l.length - 1))) = g := ⟨_, rfl⟩
 have HG := hI hg
 have HS := hI (show monicO l = listO g n by rw [<- HG.out]; unfold monicO; rw [<- HN.out])
 clear h hv hg
 go_enter Tryz.func93, Tryz.ntmps93
 go_wp2_with fail
 have H0 := hI (show RowR w [.pol A n c L] g n w.heap.size 0 (w.alloc (.cells (nils n) 27)) from ⟨_, [], M.out, Fill.nil n, rfl⟩)
 clear M hmk
 go_loopw [10] (fun v wr => ∃ k : Nat, v = .int .i64 k /\ k <= n /\ Hid (RowR w [.pol A n c L] g n w.heap.size k wr)) (fun v _ => n - (intOf v).toNat)
 case atStart => exact ⟨0, rfl, Nat.zero_le _, H0⟩
 case round =>
  obtain ⟨k, rfl, hk, HR⟩ := hrel
  clear H0
  obtain ⟨R, a, HR⟩ := HR.out
  have HR := hI HR
  by_cases hlt : k < n
  . have HRl := hI (show k < R.length by rw [HR.out.2.1.1]; exact hlt)
    have H9 := hI (show coef l (n - 1) ≠ 0 by rcases H0'.out with e | e; (have := HN.out; rw [e] at this; simp at this; omega); (rw [HN.out]; exact e))
    obtain ⟨ad, q, p, rfl, hq, hp⟩ := (HR.out.1.pol 1 rfl).el (k := k) hlt
    have HQ := hI hq
    clear hq
    obtain ⟨ad2, q9, p2, e2, hq, hp2⟩ := (HR.out.1.pol 1 rfl).el (k := n - 1) (by omega)
    injection e2 with e2
    subst e2
    have HQ2 := hI hq
    clear hq
    have hi1 : IntKind.i64.wrap ((n : Int) - 1) = ((n - 1 : Nat) : Int) := by rw [IntWalk.i64_in _ (by omega)]; omega
    have hi2 : ((n - 1 : Nat) : Int) < n := by omega
    go_wp2_with fail
    refine anyS_start (fun w' => Mem w w' [.arr w.heap.size R, .pol (some ad) n c L]) [14] 15 (by kernel_rfl) (by kernel_rfl) ?_
    have hS := (hI HR.out.1).out.drew
    refine anyS_take (v := ?_) 0 (some 13) rfl (by kernel_rfl) (by kernel_rfl) (fun _ _ _ h => h) (by rfl) ?_ hS ?_; rotate_left
    . (intro w' hSw; go_simp; try with_reducible rfl)
    try simp only [Act.put, List.setIfInBounds_toArray, List.set_cons_zero, List.set_cons_succ]
    refine anyS_take (v := ?_) 1 (some 14) rfl (by kernel_rfl) (by kernel_rfl) (fun _ _ _ h => h) (by rfl) ?_ hS ?_; rotate_left
    . (intro w' hSw; go_simp; try with_reducible rfl)
    try simp only [Act.put, List.setIfInBounds_toArray, List.set_cons_zero, List.set_cons_succ]
    refine anyS_take (v := ?_) 2 (some 15) rfl (by kernel_rfl) (by kernel_rfl) (fun _ _ _ h => h) (by rfl) ?_ hS ?_; rotate_left
    . (intro w' hSw; go_simp; try with_reducible rfl)
    try simp only [Act.put, List.setIfInBounds_toArray, List.set_cons_zero, List.set_cons_succ]
    refine anyS_take (v := ?_) 3 (some 16) rfl (by kernel_rfl) (by kernel_rfl) (fun _ _ _ h => h) (by rfl) ?_ hS ?_; rotate_left
    . (intro w' hSw; go_simp; try with_reducible rfl)
    try simp only [Act.put, List.setIfInBounds_toArray, List.set_cons_zero, List.set_cons_succ]
    refine anyS_take (v := ?_) 4 (some 17) rfl (by kernel_rfl) (by kernel_rfl) (fun _ _ _ h => h) (by rfl) ?_ hS ?_; rotate_left
    . (intro w' hSw; go_simp; try with_reducible rfl)
    try simp only [Act.put, List.setIfInBounds_toArray, List.set_cons_zero, List.set_cons_succ]
    refine anyS_take (v := ?_) 5 (some 18) rfl (by kernel_rfl) (by kernel_rfl) (fun _ _ _ h => h) (by rfl) ?_ hS ?_; rotate_left
    . (intro w' hSw; obtain ⟨x0, x1, x2, x3⟩ := (hSw.pol 1 rfl).c4 rfl HQ.out hp; go_simp; try with_reducible rfl)
    try simp only [Act.put, List.setIfInBounds_toArray, List.set_cons_zero, List.set_cons_succ]
    refine anyS_take (v := ?_) 6 (some 19) rfl (by kernel_rfl) (by kernel_rfl) (fun _ _ _ h => h) (by rfl) ?_ hS ?_; rotate_left
    . (intro w' hSw; go_simp; try with_reducible rfl)
    try simp only [Act.put, List.setIfInBounds_toArray, List.set_cons_zero, List.set_cons_succ]
    refine anyS_take (v := ?_) 7 (some 20) rfl (by kernel_rfl) (by kernel_rfl) (fun _ _ _ h => h) (by rfl) ?_ hS ?_; rotate_left
    . (intro w' hSw; go_simp; try with_reducible rfl)
    try simp only [Act.put, List.setIfInBounds_toArray, List.set_cons_zero, List.set_cons_succ]
    refine anyS_take (v := ?_) 8 (some 21) rfl (by kernel_rfl) (by kernel_rfl) (fun _ _ _ h => h) (by rfl) ?_ hS ?_; rotate_left
    . (intro w' hSw; go_simp; try with_reducible rfl)
    try simp only [Act.put, List.setIfInBounds_toArray, List.set_cons_zero, List.set_cons_succ]
    refine anyS_take (v := ?_) 9 (some 22) rfl (by kernel_rfl) (by kernel_rfl) (fun _ _ _ h => h) (by rfl) ?_ hS ?_; rotate_left
    . (intro w' hSw; go_simp; try with_reducible rfl)
    try simp only [Act.put, List.setIfInBounds_toArray, List.set_cons_zero, List.set_cons_succ]
    refine anyS_take (v := ?_) 10 (some 23) rfl (by kernel_rfl) (by kernel_rfl) (fun _ _ _ h => h) (by rfl) ?_ hS ?_; rotate_left
    . (intro w' hSw; go_simp; try with_reducible rfl)
    try simp only [Act.put, List.setIfInBounds_toArray, List.set_cons_zero, List.set_cons_succ]
    refine anyS_take (v := ?_) 11 (some 24) rfl (by kernel_rfl) (by kernel_rfl) (fun _ _ _ h => h) (by rfl) ?_ hS ?_; rotate_left
    . (intro w' hSw; obtain ⟨x0, x1, x2, x3⟩ := (hSw.pol 1 rfl).c4 rfl HQ2.out hp2; go_simp; try with_reducible rfl)
    try simp only [Act.put, List.setIfInBounds_toArray, List.set_cons_zero, List.set_cons_succ]
    have M1 := hI hS
    clear hS
    refine anyS_one 12 (by kernel_rfl) rfl (by rfl) (fun KK hKK => ?_)
    go_simp
    have C := uquotient_any q q9 _ _ wr.drew ((M1.out.pol 1 rfl).ins q (List.mem_of_getElem? HQ.out)) ((M1.out.pol 1 rfl).ins q9 (List.mem_of_getElem? HQ2.out)) (HV.out.at_ HQ.out) (HV.out.at_ HQ2.out) H9.out
    rcases hz : divO (coef l k) (coef l (n - 1)) with er | z
    . rw [hz] at C
      (with_reducible refine C.mono ?_)
      clear C
      rintro e wE ⟨rfl, hb⟩
      have HB := hI (M1.out.on hb).bel
      have HE := hI (HS.out.trans (listO_err hlt HR.out.2.2 (by rw [<- HG.out, <- HN.out]; exact hz)))
      clear hb hz
      go_wp2
      exact ⟨rfl, by rw [HE.out]; exact ⟨rfl, HB.out⟩⟩
    . rw [hz] at C
      (with_reducible refine C.mono ?_)
      clear C
      rintro e w2 ⟨q2, rfl, hq, hv, hb⟩
      have V2 := hI (And.intro hv hz)
      have M3 := hI ((M1.out.on hb).addRat hq)
      clear hq hv hb hz M1
      refine hKK.out _ _ (Or.inr (M3.out.drop 1)) ?_
      clear hKK KK 
      try simp only [Act.put, List.setIfInBounds_toArray, List.set_cons_zero, List.set_cons_succ]
      obtain ⟨⟨c0, c1, c2, c3⟩, f0, f1, f2, f3⟩ := M3.out.rowAt 1 rfl (List.getElem?_eq_getElem HRl.out)
      refine anyS_one 13 (by kernel_rfl) rfl (by rfl) (fun KK hKK => ?_)
      go_simp
      refine hKK.out _ _ (Or.inr (M3.out.drop 1)) ?_
      clear hKK KK 
      try simp only [Act.put, List.setIfInBounds_toArray, List.set_cons_zero, List.set_cons_succ]
      refine anyS_one 14 (by kernel_rfl) rfl (by rfl) (fun KK hKK => ?_)
      go_simp
      refine hKK.out _ _ (Or.inl rfl) ?_
      clear hKK KK c0 c1 c2 c3 f0 f1 f2 f3
      refine anyS_done (by kernel_rfl) ?_
      generalize hU : World.setCell (World.setCell (World.setCell (World.setCell w2 _ _) _ _) _ _) _ _ = U
      have M9 := hI ((M3.out.putRowU 1 rfl HRl.out (M3.out.rat 0 rfl) hU).drop 1)
      have HR2 := hI (show RowR w [.pol (some ad) n c L] g n w.heap.size (k + 1) U from RowR.next M9.out HR.out.2.1 HR.out.2.2 hlt V2.out.1 (by rw [<- HG.out, <- HN.out]; exact V2.out.2))
      clear hU M9 M3
      go_wp2
      go_roundw
      case rel => exact ⟨k + 1, by go_num, by omega, HR2⟩
      case measure => simp [intOf]; omega
  . have hkm : k = n := by omega
    subst hkm
    have HP := hI (row_done HR.out.1 HR.out.2.1 HR.out.2.2 (by omega))
    have HE := hI (HS.out.trans HR.out.2.2)
    clear hlt hk
    go_wp2
    go_ret
    rw [HE.out]
    exact ⟨_, _, _, _, rfl, HP.out.1, HP.out.2, fresh_row rfl, HR.out.1.bel⟩
end Go.Proofs.YtmncfbfepdbioaaGreatDoor
namespace Go.Proofs.YtmncfbfepdbioaaGreatDoor
open Go.RowKit
def InR (w : World) (tl : List Rs) (a b : List Rat) (R0 : List RVal) (r k j : Nat) (wr : World) : Prop :=
 ∃ (R : List RVal) (qv : RVal) (v : Rat), Mem w wr (.arr r R :: tl) /\ R = R0.set k qv /\ R[k]? = some qv /\ qv.v = some v /\ stepsO (fun j r => thenO (mulO (coef a (k + 1 - b.length + j)) (coef b (k - (k + 1 - b.length + j)))) fun t => addO r t) 0 j = .ok v
theorem umul_big (A : Option Addr) (n c : Nat) (A' : Option Addr) (n' c' : Nat) (w : World) (hn : n <= 100000) (hn' : n' <= 100000) (h1 : 0 < n) (h2 : 0 < n') (hd : 64 < n - 1 + (n' - 1)) :
 Calls Tryz.prog 66 #[.slice A n c, .slice A' n' c'] w (PanW 2 w) := by
 have h3 : ((n : Int) == 0) = false := by rw [beq_eq_false_iff_ne]; omega
 have h4 : ((n' : Int) == 0) = false := by rw [beq_eq_false_iff_ne]; omega
 have h5 : (64 : Int) < (n : Int) - 1 + n' - 1 := by omega
 go_enter Tryz.func66, Tryz.ntmps66
 go_wp2_with fail
 refine (abandon_any 2 w).mono ?_
 rintro e w1 ⟨rfl, hb⟩
 have HB := hI hb
 clear hb
 go_wp2
 exact ⟨rfl, rfl, HB.out⟩
theorem umul_nil1 (A : Option Addr) (c : Nat) (A' : Option Addr) (n' c' : Nat) (w : World) : Calls Tryz.prog 66 #[.slice A 0 c, .slice A' n' c'] w (RetP [] w) := by
 go_enter Tryz.func66, Tryz.ntmps66
 go_wp2
 go_ret
 exact ⟨none, 0, 0, [], rfl, PSl.nil _, rfl, (fun _ e => by cases e), Below.refl _ _⟩
theorem umul_nil2 (A : Option Addr) (n c : Nat) (A' : Option Addr) (c' : Nat) (w : World) (h1 : 0 < n) : Calls Tryz.prog 66 #[.slice A n c, .slice A' 0 c'] w (RetP [] w) := by
 have h3 : ((n : Int) == 0) = false := by rw [beq_eq_false_iff_ne]; omega
 go_enter Tryz.func66, Tryz.ntmps66
 go_wp2
 go_ret
 exact ⟨none, 0, 0, [], rfl, PSl.nil _, rfl, (fun _ e => by cases e), Below.refl _ _⟩
theorem umul_go (A : Option Addr) (n c : Nat) (L : List RVal) (a : List Rat) (A' : Option Addr) (n' c' : Nat) (L' : List RVal) (b : List Rat) (w : World) (h : PSl w A n c L) (hv : Vs L a) (h' : PSl w A' n' c' L') (hv' : Vs L' b)
 (h1 : 0 < n) (h2 : 0 < n') (hd : n - 1 + (n' - 1) <= 64) :
 Calls Tryz.prog 66 #[.slice A n c, .slice A' n' c'] w (OutP (pmulO a b) w) := by
 have HV := hI (And.intro hv hv')
 have HN := hI (show n = a.length /\ n' = b.length from ⟨by rw [<- hv.len, h.len], by rw [<- hv'.len, h'.len]⟩)
 obtain ⟨m, hm⟩ : ∃ m : Nat, n - 1 + (n' - 1) + 1 = m := ⟨_, rfl⟩
 have hm2 : (n : Int) - 1 + (n' : Int) - 1 + 1 = (m : Int) := by omega
 have hmk := fun w => make_rats w m (by omega)
 have M := hI (((((Mem.nil w).old (x := .pol A n c L) (by simp) h rfl).old (x := .pol A' n' c' L') (by simp [Rs.own]) h' rfl)).newRow m _ rfl)
 have HS := hI (show pmulO a b = listO (mulcO a b) m by unfold pmulO; rw [if_neg (by rw [<- HN.out.1, <- HN.out.2]; omega), if_neg (by rw [<- HN.out.1, <- HN.out.2]; omega), <- HN.out.1, <- HN.out.2, hm])
 have h3 : ((n : Int) == 0) = false := by rw [beq_eq_false_iff_ne]; omega
 have h4 : ((n' : Int) == 0) = false := by rw [beq_eq_false_iff_ne]; omega
 have h5 : (n : Int) - 1 + n' - 1 <= 64 := by omega
 clear h h' hv hv'
 go_enter Tryz.func66, Tryz.ntmps66
 go_wp2_with fail
 obtain ⟨r, hr⟩ : ∃ r : Nat, w.heap.size = r := ⟨_, rfl⟩
 have HRr := hI hr
 have H0 := hI (show RowR w [.pol A' n' c' L', .pol A n c L] (mulcO a b) m r 0 (w.alloc (.cells (nils m) 27)) from ⟨_, [], by rw [<- hr]; exact M.out, Fill.nil m, rfl⟩)
 rw [hr]
 clear M hmk hr h3 h4 h5 hm2
 go_loopw [32] (fun v wr => ∃ k : Nat, v = .int .i64 k /\ k <= m /\ Hid (RowR w [.pol A' n' c' L', .pol A n c L] (mulcO a b) m r k wr)) (fun v _ => m - (intOf v).toNat)
 case atStart => exact ⟨0, rfl, Nat.zero_le _, H0⟩
 case round =>
  obtain ⟨k, rfl, hk, HR⟩ := hrel
  clear H0
  obtain ⟨R, l, HR⟩ := HR.out
  have HR := hI HR
  by_cases hlt : k < m
  . have HRl0 := hI (show k < R.length by rw [HR.out.2.1.1]; exact hlt)
    go_wp2_with fail
    refine (unumber_any 0 wr (by decide) (by decide)).mono ?_
    rintro e w1 ⟨q0, rfl, hq, hv, hb⟩
    have M1 := hI ((HR.out.1.on hb).addRat hq)
    have V0 := hI (show q0.v = some 0 by show rv q0.o q0.od = _; rw [hv]; rfl)
    clear hq hv hb
    obtain ⟨⟨c0, c1, c2, c3⟩, f0, f1, f2, f3⟩ := M1.out.rowAt 1 rfl (List.getElem?_eq_getElem HRl0.out)
    obtain ⟨lo, hlo⟩ : ∃ lo : Nat, k + 1 - n' = lo := ⟨_, rfl⟩
    have hmx : max (0 : Int) ((k : Int) - (n' : Int) + 1) = (lo : Int) := by omega
    obtain ⟨hi, hhi⟩ : ∃ hi : Nat, min k (n - 1) = hi := ⟨_, rfl⟩
    have hmn : min (k : Int) ((n : Int) - 1) = (hi : Int) := by omega
    have hle : lo <= hi /\ hi < n /\ hi <= k /\ k < lo + n' := by omega
    have HC := hI (show min k (a.length - 1) + 1 - (k + 1 - b.length) = hi + 1 - lo by rw [<- HN.out.1, <- HN.out.2, hhi, hlo])
    have HLo := hI (show k + 1 - b.length = lo by rw [<- HN.out.2, hlo])
    clear hlo hhi
    go_wp2_with fail
    clear c0 c1 c2 c3 f0 f1 f2 f3
    generalize hU : World.setCell (World.setCell (World.setCell (World.setCell w1 _ _) _ _) _ _) _ _ = U
    have M2 := hI ((M1.out.putRowU 1 rfl HRl0.out (M1.out.rat 0 rfl) hU).drop 1)
    have H1 := hI (show InR w [.pol A' n' c' L', .pol A n c L] a b R r k 0 U from ⟨R.set k q0, q0, 0, M2.out, rfl, List.getElem?_set_self HRl0.out, V0.out, rfl⟩)
    clear hU M2 M1 V0
    go_loopw [8] (fun v wr => ∃ j : Nat, v = .int .i64 ((lo : Int) + (j : Int)) /\ j <= hi + 1 - lo /\ Hid (InR w [.pol A' n' c' L', .pol A n c L] a b R r k j wr)) (fun v _ => hi + 1 - (intOf v).toNat)
    case atStart => exact ⟨0, by simp, Nat.zero_le _, H1⟩
    case round =>
     obtain ⟨j, rfl, hj, HI⟩ := hrel
     clear H1
     obtain ⟨R1, qv, v, HI⟩ := HI.out
     have HI := hI HI
     have HRl := hI (show k < R1.length by rw [HI.out.2.1, List.length_set]; exact HRl0.out)
     by_cases hj2 : j < hi + 1 - lo
     . skip
       obtain ⟨ad, q1, p1, rfl, hq, hp1⟩ := (HI.out.1.pol 2 rfl).el (k := lo + j) (by omega)
       have HQ1 := hI hq
       clear hq
       obtain ⟨ad2, q2, p2, rfl, hq, hp2⟩ := (HI.out.1.pol 1 rfl).el (k := k - (lo + j)) (by omega)
       have HQ2 := hI hq
       clear hq
       obtain ⟨⟨c0, c1, c2, c3⟩, f0, f1, f2, f3⟩ := HI.out.1.rowAt 0 rfl HI.out.2.2.1
       have hi1 : IntKind.i64.wrap ((k : Int) - ((lo : Int) + (j : Int))) = ((k - (lo + j) : Nat) : Int) := by rw [IntWalk.i64_in _ (by omega)]; omega
       have hi2 : ((k - (lo + j) : Nat) : Int) < n' := by omega
       have hi3 : (lo : Int) + (j : Int) < n := by omega
       have hi4 : ((lo : Int) + (j : Int)).toNat = lo + j := by omega
       have hi5 : (0 : Int) <= (lo : Int) + (j : Int) := by omega
       clear c0 c1 c2 c3 f0 f1 f2 f3
       have HR0 := hI HI.out.2.2.1
       go_wp2_with fail
       refine anyS_start (fun w' => Mem w w' [.arr r R1, .pol (some ad2) n' c' L', .pol (some ad) n c L]) [19] 20 (by kernel_rfl) (by kernel_rfl) ?_
       have hS := (hI HI.out.1).out.drew
       refine anyS_take (v := ?_) 0 (some 54) rfl (by kernel_rfl) (by kernel_rfl) (fun _ _ _ h => h) (by rfl) ?_ hS ?_; rotate_left
       . (intro w' hSw; go_simp; try with_reducible rfl)
       try simp only [Act.put, List.setIfInBounds_toArray, List.set_cons_zero, List.set_cons_succ]
       refine anyS_take (v := ?_) 1 (some 55) rfl (by kernel_rfl) (by kernel_rfl) (fun _ _ _ h => h) (by rfl) ?_ hS ?_; rotate_left
       . (intro w' hSw; go_simp; try with_reducible rfl)
       try simp only [Act.put, List.setIfInBounds_toArray, List.set_cons_zero, List.set_cons_succ]
       refine anyS_take (v := ?_) 2 (some 56) rfl (by kernel_rfl) (by kernel_rfl) (fun _ _ _ h => h) (by rfl) ?_ hS ?_; rotate_left
       . (intro w' hSw; go_simp; try with_reducible rfl)
       try simp only [Act.put, List.setIfInBounds_toArray, List.set_cons_zero, List.set_cons_succ]
       refine anyS_take (v := ?_) 3 (some 57) rfl (by kernel_rfl) (by kernel_rfl) (fun _ _ _ h => h) (by rfl) ?_ hS ?_; rotate_left
       . (intro w' hSw; go_simp; try with_reducible rfl)
       try simp only [Act.put, List.setIfInBounds_toArray, List.set_cons_zero, List.set_cons_succ]
       refine anyS_take (v := ?_) 4 (some 58) rfl (by kernel_rfl) (by kernel_rfl) (fun _ _ _ h => h) (by rfl) ?_ hS ?_; rotate_left
       . (intro w' hSw; go_simp; try with_reducible rfl)
       try simp only [Act.put, List.setIfInBounds_toArray, List.set_cons_zero, List.set_cons_succ]
       refine anyS_take (v := ?_) 5 (some 59) rfl (by kernel_rfl) (by kernel_rfl) (fun _ _ _ h => h) (by rfl) ?_ hS ?_; rotate_left
       . (intro w' hSw; obtain ⟨⟨x0, x1, x2, x3⟩, _⟩ := hSw.rowAt 0 rfl HR0.out; go_simp; try with_reducible rfl)
       try simp only [Act.put, List.setIfInBounds_toArray, List.set_cons_zero, List.set_cons_succ]
       refine anyS_take (v := ?_) 6 (some 60) rfl (by kernel_rfl) (by kernel_rfl) (fun _ _ _ h => h) (by rfl) ?_ hS ?_; rotate_left
       . (intro w' hSw; go_simp; try with_reducible rfl)
       try simp only [Act.put, List.setIfInBounds_toArray, List.set_cons_zero, List.set_cons_succ]
       refine anyS_take (v := ?_) 7 (some 61) rfl (by kernel_rfl) (by kernel_rfl) (fun _ _ _ h => h) (by rfl) ?_ hS ?_; rotate_left
       . (intro w' hSw; go_simp; try with_reducible rfl)
       try simp only [Act.put, List.setIfInBounds_toArray, List.set_cons_zero, List.set_cons_succ]
       refine anyS_take (v := ?_) 8 (some 62) rfl (by kernel_rfl) (by kernel_rfl) (fun _ _ _ h => h) (by rfl) ?_ hS ?_; rotate_left
       . (intro w' hSw; go_simp; try with_reducible rfl)
       try simp only [Act.put, List.setIfInBounds_toArray, List.set_cons_zero, List.set_cons_succ]
       refine anyS_take (v := ?_) 9 (some 63) rfl (by kernel_rfl) (by kernel_rfl) (fun _ _ _ h => h) (by rfl) ?_ hS ?_; rotate_left
       . (intro w' hSw; obtain ⟨x0, x1, x2, x3⟩ := (hSw.pol 2 rfl).c4 rfl HQ1.out hp1; go_simp; try with_reducible rfl)
       try simp only [Act.put, List.setIfInBounds_toArray, List.set_cons_zero, List.set_cons_succ]
       refine anyS_take (v := ?_) 10 (some 64) rfl (by kernel_rfl) (by kernel_rfl) (fun _ _ _ h => h) (by rfl) ?_ hS ?_; rotate_left
       . (intro w' hSw; go_simp; try with_reducible rfl)
       try simp only [Act.put, List.setIfInBounds_toArray, List.set_cons_zero, List.set_cons_succ]
       refine anyS_take (v := ?_) 11 (some 65) rfl (by kernel_rfl) (by kernel_rfl) (fun _ _ _ h => h) (by rfl) ?_ hS ?_; rotate_left
       . (intro w' hSw; go_simp; try with_reducible rfl)
       try simp only [Act.put, List.setIfInBounds_toArray, List.set_cons_zero, List.set_cons_succ]
       refine anyS_take (v := ?_) 12 (some 66) rfl (by kernel_rfl) (by kernel_rfl) (fun _ _ _ h => h) (by rfl) ?_ hS ?_; rotate_left
       . (intro w' hSw; go_simp; try with_reducible rfl)
       try simp only [Act.put, List.setIfInBounds_toArray, List.set_cons_zero, List.set_cons_succ]
       refine anyS_take (v := ?_) 13 (some 67) rfl (by kernel_rfl) (by kernel_rfl) (fun _ _ _ h => h) (by rfl) ?_ hS ?_; rotate_left
       . (intro w' hSw; go_simp; try with_reducible rfl)
       try simp only [Act.put, List.setIfInBounds_toArray, List.set_cons_zero, List.set_cons_succ]
       refine anyS_take (v := ?_) 14 (some 68) rfl (by kernel_rfl) (by kernel_rfl) (fun _ _ _ h => h) (by rfl) ?_ hS ?_; rotate_left
       . (intro w' hSw; go_simp; try with_reducible rfl)
       try simp only [Act.put, List.setIfInBounds_toArray, List.set_cons_zero, List.set_cons_succ]
       refine anyS_take (v := ?_) 15 (some 69) rfl (by kernel_rfl) (by kernel_rfl) (fun _ _ _ h => h) (by rfl) ?_ hS ?_; rotate_left
       . (intro w' hSw; obtain ⟨x0, x1, x2, x3⟩ := (hSw.pol 1 rfl).c4 rfl HQ2.out hp2; go_simp; try with_reducible rfl)
       try simp only [Act.put, List.setIfInBounds_toArray, List.set_cons_zero, List.set_cons_succ]
       have M1 := hI hS
       clear hS
       refine anyS_one 16 (by kernel_rfl) rfl (by rfl) (fun KK hKK => ?_)
       go_simp
       have C := uproduct_any q1 q2 _ _ wr.drew ((M1.out.pol 2 rfl).ins q1 (List.mem_of_getElem? HQ1.out)) ((M1.out.pol 1 rfl).ins q2 (List.mem_of_getElem? HQ2.out)) (HV.out.1.at_ HQ1.out) (HV.out.2.at_ HQ2.out)
       rcases hz : mulO (coef a (lo + j)) (coef b (k - (lo + j))) with er | z
       . rw [hz] at C
         (with_reducible refine C.mono ?_)
         clear C
         rintro e wE ⟨rfl, hb⟩
         have HB := hI (M1.out.on hb).bel
         have HE := hI (HS.out.trans (listO_err hlt HR.out.2.2 (by show mulcO a b k = _; exact stepsO_err _ _ (show j + 1 <= min k (a.length - 1) + 1 - (k + 1 - b.length) by rw [HC.out]; exact hj2) (by rw [stepsO_succ, HI.out.2.2.2.2, HLo.out]; exact thenO_err hz _))))
         clear hb hz
         go_wp2
         exact ⟨rfl, by rw [HE.out]; exact ⟨rfl, HB.out⟩⟩
       . rw [hz] at C
         (with_reducible refine C.mono ?_)
         clear C
         rintro e w2 ⟨q3, rfl, hq, hv, hb⟩
         have V1 := hI (And.intro hv hz)
         have M2 := hI ((M1.out.on hb).addRat hq)
         clear hq hv hb hz M1
         refine hKK.out _ _ (Or.inr (M2.out.drop 1)) ?_
         clear hKK KK 
         try simp only [Act.put, List.setIfInBounds_toArray, List.set_cons_zero, List.set_cons_succ]
         refine anyS_one 17 (by kernel_rfl) rfl (by rfl) (fun KK hKK => ?_)
         go_simp
         have C := usum_any qv q3 v z w2 ((M2.out.arr 1 rfl).2 qv (List.mem_of_getElem? HR0.out)) (M2.out.rat 0 rfl) HI.out.2.2.2.1 V1.out.1
         rcases hz : addO v z with er | z2
         . rw [hz] at C
           (with_reducible refine C.mono ?_)
           clear C
           rintro e wE ⟨rfl, hb⟩
           have HB := hI (M2.out.on hb).bel
           have HE := hI (HS.out.trans (listO_err hlt HR.out.2.2 (by show mulcO a b k = _; exact stepsO_err _ _ (show j + 1 <= min k (a.length - 1) + 1 - (k + 1 - b.length) by rw [HC.out]; exact hj2) (by rw [stepsO_succ, HI.out.2.2.2.2, HLo.out]; exact by show thenO (mulO _ _) _ = _; rw [V1.out.2]; exact hz))))
           clear hb hz
           go_wp2
           exact ⟨rfl, by rw [HE.out]; exact ⟨rfl, HB.out⟩⟩
         . rw [hz] at C
           (with_reducible refine C.mono ?_)
           clear C
           rintro e w3 ⟨q4, rfl, hq, hv, hb⟩
           have V2 := hI (And.intro hv hz)
           have M3 := hI ((M2.out.on hb).addRat hq)
           clear hq hv hb hz M2
           refine hKK.out _ _ (Or.inr (M3.out.drop 2)) ?_
           clear hKK KK 
           try simp only [Act.put, List.setIfInBounds_toArray, List.set_cons_zero, List.set_cons_succ]
           obtain ⟨⟨c0, c1, c2, c3⟩, f0, f1, f2, f3⟩ := M3.out.rowAt 2 rfl HR0.out
           refine anyS_one 18 (by kernel_rfl) rfl (by rfl) (fun KK hKK => ?_)
           go_simp
           refine hKK.out _ _ (Or.inr (M3.out.drop 2)) ?_
           clear hKK KK 
           try simp only [Act.put, List.setIfInBounds_toArray, List.set_cons_zero, List.set_cons_succ]
           refine anyS_one 19 (by kernel_rfl) rfl (by rfl) (fun KK hKK => ?_)
           go_simp
           refine hKK.out _ _ (Or.inl rfl) ?_
           clear hKK KK c0 c1 c2 c3 f0 f1 f2 f3
           refine anyS_done (by kernel_rfl) ?_
           generalize hU : World.setCell (World.setCell (World.setCell (World.setCell w3 _ _) _ _) _ _) _ _ = U
           have M9 := hI ((M3.out.putRowU 2 rfl HRl.out (M3.out.rat 0 rfl) hU).drop 2)
           have HI2 := hI (show InR w [.pol (some ad2) n' c' L', .pol (some ad) n c L] a b R r k (j + 1) U from ⟨R1.set k q4, q4, z2, M9.out, by rw [HI.out.2.1, List.set_set], List.getElem?_set_self (by exact HRl.out), V2.out.1, by rw [stepsO_succ, HI.out.2.2.2.2, HLo.out]; show thenO (mulO _ _) _ = _; rw [V1.out.2]; exact V2.out.2⟩)
           clear hU M9 M3
           go_wp2
           go_roundw
           case rel => exact ⟨j + 1, by push_cast; go_num, by omega, HI2⟩
           case measure => simp [intOf]; omega
     . have hjm : j = hi + 1 - lo := by omega
       have HY := hI (show mulcO a b k = .ok v by have := HI.out.2.2.2.2; rw [hjm, <- HC.out] at this; exact this)
       have M3 := hI (show Mem w wr (.arr r (R.set k qv) :: [.pol A' n' c' L', .pol A n c L]) by have := HI.out.1; rw [HI.out.2.1] at this; exact this)
       have HR2 := hI (show RowR w [.pol A' n' c' L', .pol A n c L] (mulcO a b) m r (k + 1) wr from RowR.next M3.out HR.out.2.1 HR.out.2.2 hlt HI.out.2.2.2.1 HY.out)
       have ht : decide ((lo : Int) + (j : Int) <= (hi : Int)) = false := by simp; omega
       clear M3 HY
       go_wp2
       go_roundw
       case rel => exact ⟨k + 1, by go_num, by omega, HR2⟩
       case measure => simp [intOf]; omega
  . have hkm : k = m := by omega
    subst hkm
    have HP := hI (row_done HR.out.1 HR.out.2.1 HR.out.2.2 (by omega))
    have HE := hI (HS.out.trans HR.out.2.2)
    clear hlt hk
    go_wp2
    go_ret
    rw [HE.out]
    exact ⟨_, _, _, _, rfl, HP.out.1, HP.out.2, fresh_row HRr.out, HR.out.1.bel⟩
theorem umul_any (A : Option Addr) (n c : Nat) (L : List RVal) (a : List Rat) (A' : Option Addr) (n' c' : Nat) (L' : List RVal) (b : List Rat) (w : World) (h : PSl w A n c L) (hv : Vs L a) (h' : PSl w A' n' c' L') (hv' : Vs L' b)
 (hn : n <= 100000) (hn' : n' <= 100000) : Calls Tryz.prog 66 #[.slice A n c, .slice A' n' c'] w (OutP (pmulO a b) w) := by
 have e1 : a.length = n := by rw [<- hv.len, h.len]
 have e2 : b.length = n' := by rw [<- hv'.len, h'.len]
 rcases Nat.eq_zero_or_pos n with h0 | h0
 . subst h0
   rw [show pmulO a b = .ok [] by unfold pmulO; rw [if_pos (Or.inl e1)]]
   exact umul_nil1 A c A' n' c' w
 . rcases Nat.eq_zero_or_pos n' with h1 | h1
   . subst h1
     rw [show pmulO a b = .ok [] by unfold pmulO; rw [if_pos (Or.inr e2)]]
     exact umul_nil2 A n c A' c' w h0
   . by_cases hd : n - 1 + (n' - 1) <= 64
     . exact umul_go A n c L a A' n' c' L' b w h hv h' hv' h0 h1 hd
     . rw [show pmulO a b = .error 2 by unfold pmulO; rw [if_neg (by omega), if_pos (by omega)]]
       exact umul_big A n c A' n' c' w hn hn' h0 h1 (by omega)
theorem ptrim_le : ∀ p : List Rat, (ptrim p).length <= p.length
 | [] => Nat.le_refl _
 | a :: p => by
   have ih := ptrim_le p
   show (match ptrim p with | [] => if a.num = 0 then [] else [a] | b :: q => a :: b :: q).length <= p.length + 1
   rcases hp : ptrim p with _ | ⟨b, q⟩
   . by_cases h : a.num = 0
     . simp [h]
     . simp [h]
   . rw [hp] at ih
     show (b :: q).length + 1 <= _
     omega
end Go.Proofs.YtmncfbfepdbioaaGreatDoor
namespace Go.Proofs.YtmncfbfepdbioaaGreatDoor
open Go.RowKit
end Go.Proofs.YtmncfbfepdbioaaGreatDoor
namespace Go.Proofs.YtmncfbfepdbioaaGreatDoor
open Go
section
variable {P : Program} {ops : Array Oper} {Q : Exit -> Act -> World -> Prop} {md : Region.Mode} {S : World -> Prop} {late : List Nat}
def clean (late : List Nat) (l : Array Bool) : Prop := ∀ j ∈ late, l.getD j false = false
def dirty (late : List Nat) (l : Array Bool) : Bool := late.any fun j => l.getD j false
theorem clean_of {l : Array Bool} (h : dirty late l = false) : clean late l := fun j hj => by
 unfold dirty at h
 rw [List.any_eq_false] at h
 simpa using h j hj
theorem dirty_not {l : Array Bool} (h : dirty late l = true) (k : clean late l) : False := by
 unfold dirty at h
 obtain ⟨j, hj, e⟩ := List.any_eq_true.1 h
 rw [k j hj] at e
 cases e
def AnyM (P : Program) (md : Region.Mode) (ops : Array Oper) (Q : Exit -> Act -> World -> Prop) (S : World -> Prop) (late : List Nat) : Nat -> Array Bool -> Act -> World -> Prop
 | 0, l, a, w => Region.ready md ops l = [] /\ Q .normal a w
 | k + 1, l, a, w => (Region.ready md ops l = [] -> Q .normal a w) /\ ∀ i ∈ Region.ready md ops l, wpOp P ops Q i (fun a' w' => (clean late (l.setIfInBounds i true) -> S w') /\ AnyM P md ops Q S late k (l.setIfInBounds i true) a' w') a w
theorem anyM_weak : ∀ (k : Nat) (l : Array Bool) (a : Act) (w : World), AnyM P md ops Q S late k l a w -> wpAny P md ops Q k l a w
 | 0, _, _, _, h => h
 | k + 1, _, _, _, h => ⟨h.1, fun i hi => wpOp_mono (fun a' w' x => anyM_weak k _ a' w' x.2) (h.2 i hi)⟩
theorem clean_set {l : Array Bool} {i : Nat} (h : clean late l) (hi : late.contains i = false) : clean late (l.setIfInBounds i true) := fun j hj => by
 have : i ≠ j := fun e => by subst e; rw [List.contains_iff_mem.2 hj] at hi; cases hi
 rw [getD_set_ne false this]
 exact h j hj
def lateWait (md : Region.Mode) (ops : Array Oper) (late : List Nat) (i : Nat) : Bool :=
 !late.contains i && late.all fun j => match ops[j]? with | some o => o.after.any fun e => Region.binds md e && e.on == i | none => false
theorem lateWait_spec {i j : Nat} {oj : Oper} (h : lateWait md ops late i = true) (hj : ops[j]? = some oj) (hnot : ∀ e ∈ oj.after, Region.binds md e = true -> e.on ≠ i) : late.contains j = false := by
 unfold lateWait at h
 rw [Bool.and_eq_true] at h
 by_cases c : late.contains j = true
 . have := List.all_eq_true.1 h.2 j (List.contains_iff_mem.1 c)
   rw [hj] at this
   simp only [Array.any_eq_true', Bool.and_eq_true, beq_iff_eq] at this
   obtain ⟨e, he, hb, ho⟩ := this
   exact absurd ho (hnot e he hb)
 . simpa using c
theorem anyM_first {i : Nat} {oi : Oper} {v : Value} (hi : ops[i]? = some oi) (hsel : ∀ (j : Nat) (o : Oper) cs b, ops[j]? = some o -> o.op ≠ .select cs b) (hQ : ∀ c a w, Q (.panic c) (a.put oi.dst v) w -> Q (.panic c) a w) (hlw : lateWait md ops late i = true) :
 ∀ (k : Nat) (l : Array Bool) (a : Act) (w : World), (∀ j oj, ops[j]? = some oj -> j ≠ i -> l.getD j true = false -> (∀ e ∈ oj.after, Region.binds md e = true -> e.on ≠ i) -> oi.apart ops oj = true) →
   i ∈ Region.ready md ops l -> clean late l -> YieldsIf P ops S oi v a -> S w -> AnyM P md ops Q S late k (l.setIfInBounds i true) (a.put oi.dst v) w -> AnyM P md ops Q S late (k + 1) l a w := by
 have hil : late.contains i = false := by
  unfold lateWait at hlw
  rw [Bool.and_eq_true] at hlw
  simpa using hlw.1
 have waits : ∀ (l : Array Bool) (j : Nat) (oj : Oper), i ∈ Region.ready md ops l -> (∀ e ∈ oj.after, Region.binds md e = true -> l.getD e.on false = true) -> ∀ e ∈ oj.after, Region.binds md e = true -> e.on ≠ i := by
  intro l j oj hr hall e he hb heq
  have h1 := hall e he hb
  have h0 := (mem_ready.1 hr).1
  rw [heq] at h1
  rcases Nat.lt_or_ge i l.size with q | q
  . simp [q] at h0 h1; rw [h0] at h1; cases h1
  . simp [Array.getElem?_eq_none q] at h1
 intro k
 induction k with
 | zero =>
   intro l a w _ hr hc hy hS H
   refine ⟨fun e => (by rw [e] at hr; cases hr), fun j hj => ?_⟩
   by_cases hji : j = i
   . subst hji; exact hy.wpOp hi hS ⟨fun _ => hS, H⟩
   . have := ready_mono hj hji
     rw [H.1] at this
     cases this
 | succ k ih =>
   intro l a w hf hr hc hy hS H
   refine ⟨fun e => (by rw [e] at hr; cases hr), fun j hj => ?_⟩
   by_cases hji : j = i
   . subst hji; exact hy.wpOp hi hS ⟨fun _ => hS, H⟩
   . have g := H.2 j (ready_mono hj hji)
     obtain ⟨hun, oj, hoj, hall⟩ := mem_ready.1 hj
     have hw := waits l j oj hr hall
     have f := hf j oj hoj hji hun hw
     have jl : late.contains j = false := lateWait_spec hlw hoj hw
     have cj : clean late (l.setIfInBounds j true) := clean_set hc jl
     have cij : clean late ((l.setIfInBounds i true).setIfInBounds j true) := clean_set (clean_set hc hil) jl
     have g2 := wpOp_putIf hoj f (fun cs b => hsel i oi cs b hi) (fun cs b => hsel j oj cs b hoj) hQ hy g
     refine wpOp_mono (fun a' w' x => ?_) g2
     have sw := x.2.1 cij
     refine ⟨fun _ => sw, ih (l.setIfInBounds j true) a' w' (fun m om hm hmi hum hno => ?_) (ready_mono hr (Ne.symm hji)) cj x.1 sw ?_⟩
     . refine hf m om hm hmi ?_ hno
       by_cases hjm : j = m
       . subst hjm; exact hun
       . rw [getD_set_ne true hjm] at hum; exact hum
     . rw [Array.setIfInBounds_comm _ _ hji]
       exact x.2.2
theorem anyM_start {id : Nat} {a : Act} {w : World} (S : World -> Prop) (late : List Nat) (n : Nat) (hn : (ops.size == n) = true) (hm : P.follows .mixedOrders = true) (h : AnyM P .any ops Q S late n (Array.replicate n false) a w.drew) : (Code.region id ops true).wp P Q a w := by
 rw [<- beq_iff_eq.1 hn] at h
 exact wp_region_any hm (anyM_weak _ _ _ _ h)
theorem anyM_take (i : Nat) (d : Option Tmp) {oi : Oper} {v : Value} {k : Nat} {l : Array Bool} {a : Act} {w : World} (hi : ops[i]? = some oi) (hk : (Region.noSelect ops && Region.free md ops l i && lateWait md ops late i && (Region.ready md ops l).contains i && !dirty late l) = true)
 (hd : (oi.dst == d) = true) (hQ : ∀ c a w, Q (.panic c) (a.put d v) w -> Q (.panic c) a w) (hw : Region.wanted oi (yielded ops a.tmps) = true) (hy : ∀ w, S w -> (execOp a.eval oi).run P w = .ok (.value v) w) (hS : S w)
 (h : AnyM P md ops Q S late k (l.setIfInBounds i true) (a.put d v) w) : AnyM P md ops Q S late (k + 1) l a w := by
 simp only [Bool.and_eq_true, beq_iff_eq, Bool.not_eq_true'] at hk hd
 subst hd
 exact anyM_first hi (Region.noSelect_spec hk.1.1.1.1) hQ hk.1.1.2 k l a w (fun j oj x1 x2 x3 x4 => Region.free_spec hi hk.1.1.1.2 j oj x1 x2 x3 x4) (by simpa using hk.1.2) (clean_of hk.2) (Or.inl ⟨hw, fun w s => hy w s⟩) hS h
theorem anyM_one (i : Nat) {o : Oper} {k : Nat} {l : Array Bool} {a : Act} {w : World} (hr : Region.ready md ops l = [i]) (ho : ops[i]? = some o) (hw : Region.wanted o (yielded ops a.tmps) = true)
 (h : ∀ K' : Act -> World -> Prop, Shut (∀ a w, (dirty late (l.setIfInBounds i true) = true \/ S w) -> AnyM P md ops Q S late k (l.setIfInBounds i true) a w -> K' a w) -> Oper.wp P o a w K' Q) : AnyM P md ops Q S late (k + 1) l a w := by
 refine ⟨fun e => (by rw [hr] at e; cases e), fun j hj => ?_⟩
 rw [hr] at hj
 obtain rfl := List.mem_singleton.1 hj
 refine wpOp_step ho (fun K' hK => ?_)
 rw [if_pos hw]
 refine h K' (fun a w x y => hK a w ⟨fun c => ?_, y⟩)
 rcases x with x | x
 . exact absurd c (dirty_not x)
 . exact x
theorem anyM_br2 (i j : Nat) {oi oj : Oper} {k : Nat} {l : Array Bool} {a : Act} {w : World} (hr : Region.ready md ops l = [i, j]) (hi : ops[i]? = some oi) (hj : ops[j]? = some oj) (hwi : Region.wanted oi (yielded ops a.tmps) = true) (hwj : Region.wanted oj (yielded ops a.tmps) = true)
 (h1 : ∀ K' : Act -> World -> Prop, Shut (∀ a w, (dirty late (l.setIfInBounds i true) = true \/ S w) -> AnyM P md ops Q S late k (l.setIfInBounds i true) a w -> K' a w) -> Oper.wp P oi a w K' Q)
 (h2 : ∀ K' : Act -> World -> Prop, Shut (∀ a w, (dirty late (l.setIfInBounds j true) = true \/ S w) -> AnyM P md ops Q S late k (l.setIfInBounds j true) a w -> K' a w) -> Oper.wp P oj a w K' Q) : AnyM P md ops Q S late (k + 1) l a w := by
 have un : ∀ (m : Nat) (w : World), (dirty late (l.setIfInBounds m true) = true \/ S w) -> (clean late (l.setIfInBounds m true) -> S w) := fun m w x c => by
  rcases x with x | x
  . exact absurd c (dirty_not x)
  . exact x
 refine ⟨fun e => (by rw [hr] at e; cases e), fun m hm => ?_⟩
 rw [hr] at hm
 simp only [List.mem_cons, List.not_mem_nil, or_false] at hm
 rcases hm with rfl | rfl
 . refine wpOp_step hi (fun K' hK => ?_)
   rw [if_pos hwi]
   exact h1 K' (fun a w x y => hK a w ⟨un _ w x, y⟩)
 . refine wpOp_step hj (fun K' hK => ?_)
   rw [if_pos hwj]
   exact h2 K' (fun a w x y => hK a w ⟨un _ w x, y⟩)
theorem anyM_done {l : Array Bool} {a : Act} {w : World} (hr : Region.ready md ops l = []) (h : Q .normal a w) : ∀ k, AnyM P md ops Q S late k l a w
 | 0 => ⟨hr, h⟩
 | k + 1 => ⟨fun _ => h, fun i hi => by rw [hr] at hi; cases hi⟩
end
end Go.Proofs.YtmncfbfepdbioaaGreatDoor
