/-
  Stage 3: what the program's functions on polynomials return, a number that would be too big among it: on lists of rationals, step by step. Stage 3: the program's functions on numbers: abandon, must, sum, difference, product, quotient, number, isZero. Stage 3: the program's coefficient and trim.
-/
import Derived.Test.YtjbnclfbkccieaaGreatDoorPolS
namespace Go.Proofs.YtjbnclfbkccieaaGreatDoor
/-- An integer fits. -/
def fz (z : Int) : Bool := decide (z.natAbs < BIG)
def addO (x y : Rat) : Except Int Rat := if (fz (x.num * y.den) && fz (y.num * x.den) && fz (x.num * y.den + y.num * x.den) && fz ((x.den : Int) * y.den)) = true then .ok (x + y) else .error 2
def subO (x y : Rat) : Except Int Rat := if (fz (x.num * y.den) && fz (y.num * x.den) && fz (x.num * y.den - y.num * x.den) && fz ((x.den : Int) * y.den)) = true then .ok (x - y) else .error 2
def mulO (x y : Rat) : Except Int Rat := if (fz (x.num * y.num) && fz ((x.den : Int) * y.den)) = true then .ok (x * y) else .error 2
/-- For a divisor that is not 0. -/
def divO (x y : Rat) : Except Int Rat := if (fz (x.num * y.den) && fz ((x.den : Int) * y.num)) = true then .ok (x / y) else .error 2
def thenO {α β : Type} (x : Except Int α) (f : α → Except Int β) : Except Int β := match x with
  | .error e => .error e
  | .ok a => f a
/-- n steps, of which the first error ends them. -/
def stepsO {α : Type} (f : Nat → α → Except Int α) (a : α) : Nat → Except Int α
  | 0 => .ok a
  | n + 1 => thenO (stepsO f a n) (f n)
/-- A list whose elements are computed in turn. -/
def listO (f : Nat → Except Int Rat) : Nat → Except Int (List Rat) := stepsO (fun i l => thenO (f i) fun x => .ok (l ++ [x])) []
def combO (f : Rat → Rat → Except Int Rat) (p q : List Rat) : Except Int (List Rat) := thenO (listO (fun i => f (coef p i) (coef q i)) (max p.length q.length)) fun l => .ok (ptrim l)
def mulcO (p q : List Rat) (k : Nat) : Except Int Rat :=
  stepsO (fun j r => thenO (mulO (coef p (k + 1 - q.length + j)) (coef q (k - (k + 1 - q.length + j)))) fun t => addO r t) 0 (min k (p.length - 1) + 1 - (k + 1 - q.length))
def pmulO (p q : List Rat) : Except Int (List Rat) :=
  if p.length = 0 ∨ q.length = 0 then .ok [] else
  if 64 < p.length - 1 + (q.length - 1) then .error 2 else
  listO (mulcO p q) (p.length - 1 + (q.length - 1) + 1)
def powO (a : Rat) (n : Nat) : Except Int Rat := stepsO (fun _ r => mulO r a) 1 n
def monicO (p : List Rat) : Except Int (List Rat) := listO (fun i => divO (coef p i) (coef p (p.length - 1))) p.length
/-- One coefficient's place in the rest, for the quotient's coefficient c at k. -/
def restO (q : List Rat) (c : Rat) (k i : Nat) (rest : List Rat) : Except Int (List Rat) := thenO (mulO c (coef q i)) fun t => thenO (subO (coef rest (k + i)) t) fun x => .ok (rest.set (k + i) x)
def rowO (q : List Rat) (k : Nat) (s : List Rat × List Rat) : Except Int (List Rat × List Rat) :=
  thenO (divO (coef s.2 (k + (q.length - 1))) (coef q (q.length - 1))) fun c => thenO (stepsO (restO q c k) s.2 (q.length - 1)) fun rest => .ok (c :: s.1, rest)
def pdivO (p q : List Rat) : Except Int (List Rat × List Rat) :=
  if q.length = 0 then .error 4 else
  thenO (stepsO (fun j s => rowO q (p.length - (q.length - 1) - 1 - j) s) ([], p) (p.length - (q.length - 1))) fun s => .ok (s.1, ptrim (s.2.take (min (q.length - 1) p.length)))
def gcdO : Nat → List Rat → List Rat → Except Int (List Rat)
  | 0, p, _ => monicO p
  | n + 1, p, q => if q.length = 0 then monicO p else thenO (pdivO p q) fun d => thenO (monicO d.2) fun r => gcdO n q r
def resO : Nat → List Rat → List Rat → Except Int Rat
  | 0, _, _ => .ok 0
  | g + 1, p, q =>
    if p.length = 0 ∨ q.length = 0 then .ok 0 else
    if q.length - 1 = 0 then powO (coef q 0) (p.length - 1) else
    if p.length - 1 < q.length - 1 then
      thenO (resO g q p) fun v => if (p.length - 1) * (q.length - 1) % 2 = 1 then subO 0 v else .ok v
    else thenO (pdivO p q) fun d =>
      if d.2.length = 0 then .ok 0 else
      thenO (powO (coef q (q.length - 1)) (p.length - 1 - (d.2.length - 1))) fun a => thenO (resO g q d.2) fun b => thenO (mulO a b) fun v =>
      if (p.length - 1) * (q.length - 1) % 2 = 1 then subO 0 v else .ok v
section
variable {α β : Type}
theorem stepsO_succ (f : Nat → α → Except Int α) (a : α) (n : Nat) : stepsO f a (n + 1) = thenO (stepsO f a n) (f n) := rfl
theorem thenO_ok {x : Except Int α} {a : α} (h : x = .ok a) (f : α → Except Int β) : thenO x f = f a := by rw [h]; rfl
theorem thenO_err {x : Except Int α} {e : Int} (h : x = .error e) (f : α → Except Int β) : thenO x f = .error e := by rw [h]; rfl
theorem thenO_inv {x : Except Int α} {f : α → Except Int β} {b : β} (h : thenO x f = .ok b) : ∃ a, x = .ok a ∧ f a = .ok b := by
  rcases x with e | a
  · cases h
  · exact ⟨a, rfl, h⟩
theorem listO_len {f : Nat → Except Int Rat} : ∀ {n : Nat} {l : List Rat}, listO f n = .ok l → l.length = n
  | 0, l, h => by injection h with h; subst h; rfl
  | n + 1, l, h => by
    obtain ⟨x, hx, hf⟩ := thenO_inv h
    obtain ⟨y, hy, hl⟩ := thenO_inv hf
    injection hl with hl
    subst hl
    rw [List.length_append, listO_len hx]
    rfl
/-- An error at an earlier step is the whole's. -/
theorem stepsO_err (f : Nat → α → Except Int α) (a : α) {k n : Nat} {e : Int} (hk : k ≤ n) (h : stepsO f a k = .error e) : stepsO f a n = .error e := by
  induction n with
  | zero =>
    rw [show k = 0 by omega] at h
    exact h
  | succ n ih =>
    by_cases c : k ≤ n
    · rw [stepsO_succ, thenO_err (ih c)]
    · rw [show n + 1 = k by omega]
      exact h
end
end Go.Proofs.YtjbnclfbkccieaaGreatDoor
namespace Go.Proofs.YtjbnclfbkccieaaGreatDoor
open Go.RowKit
def RVal.v (q : RVal) : Option Rat := rv q.o q.od
theorem fz_lt {z : Int} : fz z = true ↔ z.natAbs < BIG := decide_eq_true_iff
/-- The computation is abandoned with an error. -/
def PanW (er : Int) (w : World) (e : Ending) (w' : World) : Prop := e = .panicked [{ v := .iface 109 (.agg #[.int .i64 er]), recovered := false }] ∧ Below w.heap.size w w'
/-- A number is handed back, or the computation is abandoned. -/
def OutW (r : Except Int Rat) (w : World) (e : Ending) (w' : World) : Prop := match r with
  | .ok x => RetW x w e w'
  | .error er => PanW er w e w'
theorem if_okO {b : Bool} {x z : Rat} (h : (if b = true then (.ok x : Except Int Rat) else .error 2) = .ok z) : b = true ∧ x = z := by
  rcases b with _ | _
  · cases h
  · injection h with h; exact ⟨rfl, h⟩
theorem if_errO {b : Bool} {x : Rat} {er : Int} (h : (if b = true then (.ok x : Except Int Rat) else .error 2) = .error er) : ¬ b = true ∧ er = 2 := by
  rcases b with _ | _
  · injection h with h; exact ⟨by simp, h.symm⟩
  · cases h
section
variable {q q' : RVal} {x y z : Rat} {er : Int} {w : World}
theorem add_okO (h : q.In w) (h' : q'.In w) (hx : q.v = some x) (hy : q'.v = some y) (hz : addO x y = .ok z) : Calls Tryz.prog 38 #[.agg #[.bool q.g, .slice q.A q.n q.c, .bool q.gd, .slice q.Ad q.nd q.cd], .agg #[.bool q'.g, .slice q'.A q'.n q'.c, .bool q'.gd, .slice q'.Ad q'.nd q'.cd]] w (RetV z w) := by
  obtain ⟨hb, rfl⟩ := if_okO hz
  simp only [Bool.and_eq_true] at hb
  exact (add_ok h h' hx hy (fz_lt.1 hb.1.1.1) (fz_lt.1 hb.1.1.2) (fz_lt.1 hb.1.2) (fz_lt.1 hb.2)).mono fun _ _ k => RetR.v rfl rfl k
theorem add_errO (h : q.In w) (h' : q'.In w) (hx : q.v = some x) (hy : q'.v = some y) (hz : addO x y = .error er) : er ≠ 0 ∧ Calls Tryz.prog 38 #[.agg #[.bool q.g, .slice q.A q.n q.c, .bool q.gd, .slice q.Ad q.nd q.cd], .agg #[.bool q'.g, .slice q'.A q'.n q'.c, .bool q'.gd, .slice q'.Ad q'.nd q'.cd]] w (RetR 0 0 er w) := by
  obtain ⟨hb, rfl⟩ := if_errO hz
  refine ⟨by decide, add_no h h' hx hy fun k => hb ?_⟩
  simp only [Bool.and_eq_true]
  exact ⟨⟨⟨fz_lt.2 k.1, fz_lt.2 k.2.1⟩, fz_lt.2 k.2.2.1⟩, fz_lt.2 k.2.2.2⟩
theorem sub_okO (h : q.In w) (h' : q'.In w) (hx : q.v = some x) (hy : q'.v = some y) (hz : subO x y = .ok z) : Calls Tryz.prog 129 #[.agg #[.bool q.g, .slice q.A q.n q.c, .bool q.gd, .slice q.Ad q.nd q.cd], .agg #[.bool q'.g, .slice q'.A q'.n q'.c, .bool q'.gd, .slice q'.Ad q'.nd q'.cd]] w (RetV z w) := by
  obtain ⟨hb, rfl⟩ := if_okO hz
  simp only [Bool.and_eq_true] at hb
  exact (sub_ok h h' hx hy (fz_lt.1 hb.1.1.1) (fz_lt.1 hb.1.1.2) (fz_lt.1 hb.1.2) (fz_lt.1 hb.2)).mono fun _ _ k => RetR.v rfl rfl k
theorem sub_errO (h : q.In w) (h' : q'.In w) (hx : q.v = some x) (hy : q'.v = some y) (hz : subO x y = .error er) : er ≠ 0 ∧ Calls Tryz.prog 129 #[.agg #[.bool q.g, .slice q.A q.n q.c, .bool q.gd, .slice q.Ad q.nd q.cd], .agg #[.bool q'.g, .slice q'.A q'.n q'.c, .bool q'.gd, .slice q'.Ad q'.nd q'.cd]] w (RetR 0 0 er w) := by
  obtain ⟨hb, rfl⟩ := if_errO hz
  refine ⟨by decide, sub_no h h' hx hy fun k => hb ?_⟩
  simp only [Bool.and_eq_true]
  exact ⟨⟨⟨fz_lt.2 k.1, fz_lt.2 k.2.1⟩, fz_lt.2 k.2.2.1⟩, fz_lt.2 k.2.2.2⟩
theorem mul_okO (h : q.In w) (h' : q'.In w) (hx : q.v = some x) (hy : q'.v = some y) (hz : mulO x y = .ok z) : Calls Tryz.prog 39 #[.agg #[.bool q.g, .slice q.A q.n q.c, .bool q.gd, .slice q.Ad q.nd q.cd], .agg #[.bool q'.g, .slice q'.A q'.n q'.c, .bool q'.gd, .slice q'.Ad q'.nd q'.cd]] w (RetV z w) := by
  obtain ⟨hb, rfl⟩ := if_okO hz
  simp only [Bool.and_eq_true] at hb
  exact (mul_ok h h' hx hy (fz_lt.1 hb.1) (fz_lt.1 hb.2)).mono fun _ _ k => RetR.v rfl rfl k
theorem mul_errO (h : q.In w) (h' : q'.In w) (hx : q.v = some x) (hy : q'.v = some y) (hz : mulO x y = .error er) : er ≠ 0 ∧ Calls Tryz.prog 39 #[.agg #[.bool q.g, .slice q.A q.n q.c, .bool q.gd, .slice q.Ad q.nd q.cd], .agg #[.bool q'.g, .slice q'.A q'.n q'.c, .bool q'.gd, .slice q'.Ad q'.nd q'.cd]] w (RetR 0 0 er w) := by
  obtain ⟨hb, rfl⟩ := if_errO hz
  refine ⟨by decide, mul_no h h' hx hy fun k => hb ?_⟩
  simp only [Bool.and_eq_true]
  exact ⟨fz_lt.2 k.1, fz_lt.2 k.2⟩
theorem div_okO (h : q.In w) (h' : q'.In w) (hx : q.v = some x) (hy : q'.v = some y) (hz : divO x y = .ok z) (h0 : y ≠ 0) : Calls Tryz.prog 168 #[.agg #[.bool q.g, .slice q.A q.n q.c, .bool q.gd, .slice q.Ad q.nd q.cd], .agg #[.bool q'.g, .slice q'.A q'.n q'.c, .bool q'.gd, .slice q'.Ad q'.nd q'.cd]] w (RetV z w) := by
  obtain ⟨hb, rfl⟩ := if_okO hz
  simp only [Bool.and_eq_true] at hb
  exact (div_ok h h' hx hy (fun e => h0 (Rat.num_eq_zero.1 e)) (fz_lt.1 hb.1) (fz_lt.1 hb.2)).mono fun _ _ k => RetR.v rfl rfl k
theorem div_errO (h : q.In w) (h' : q'.In w) (hx : q.v = some x) (hy : q'.v = some y) (hz : divO x y = .error er) : er ≠ 0 ∧ Calls Tryz.prog 168 #[.agg #[.bool q.g, .slice q.A q.n q.c, .bool q.gd, .slice q.Ad q.nd q.cd], .agg #[.bool q'.g, .slice q'.A q'.n q'.c, .bool q'.gd, .slice q'.Ad q'.nd q'.cd]] w (RetR 0 0 er w) := by
  obtain ⟨hb, rfl⟩ := if_errO hz
  refine ⟨by decide, div_no h h' hx hy fun k => hb ?_⟩
  simp only [Bool.and_eq_true]
  exact ⟨fz_lt.2 k.1, fz_lt.2 k.2⟩
end
theorem abandon_any (er : Int) (w : World) : Calls Tryz.prog 75 #[.int .i64 er] w (PanW er w) := by
  go_enter Tryz.func75, Tryz.ntmps75
  go_wp2
  exact ⟨rfl, rfl, Below.refl _ _⟩
theorem must_ok (q : RVal) (x : Rat) (w : World) (h : q.In w) (hx : q.v = some x) : Calls Tryz.prog 127 #[.agg #[.bool q.g, .slice q.A q.n q.c, .bool q.gd, .slice q.Ad q.nd q.cd], .int .i64 0] w (RetW x w) := by
  have M := hI ((((Mem.nil w).old (x := .rat q) (by simp) h rfl).newBox h _ rfl).newBox (q := q) (h.on (below_new _ _)) (w.heap.size + 1) (by simp))
  have HV := hI hx
  clear h hx
  go_enter Tryz.func127, Tryz.ntmps127
  go_wp2
  refine bodyPost_ret (v := .agg #[.bool q.g, .slice q.A q.n q.c, .bool q.gd, .slice q.Ad q.nd q.cd]) (by simp [results, Tryz.results127, go_sem]) rfl ?_
  exact ⟨q, rfl, (M.out.box 0 rfl).sl, HV.out, M.out.bel⟩
theorem must_no (q : RVal) (er : Int) (w : World) (h : q.In w) (he : er ≠ 0) : Calls Tryz.prog 127 #[.agg #[.bool q.g, .slice q.A q.n q.c, .bool q.gd, .slice q.Ad q.nd q.cd], .int .i64 er] w (PanW er w) := by
  have M := hI ((((Mem.nil w).old (x := .rat q) (by simp) h rfl).newBox h _ rfl).newNil (w.heap.size + 1) (by simp))
  have h1 : (er != 0) = true := by rw [bne_iff_ne]; exact he
  clear h he
  go_enter Tryz.func127, Tryz.ntmps127
  go_wp2_with (go_at_call 75; refine (abandon_any er _).mono ?_; rintro e w1 ⟨rfl, hb⟩)
  exact ⟨rfl, rfl, (M.out.on hb).bel⟩
theorem usum_ok (q q' : RVal) (x y z : Rat) (w : World) (h : q.In w) (h' : q'.In w) (hx : q.v = some x) (hy : q'.v = some y) (hz : addO x y = .ok z) : Calls Tryz.prog 72 #[.agg #[.bool q.g, .slice q.A q.n q.c, .bool q.gd, .slice q.Ad q.nd q.cd], .agg #[.bool q'.g, .slice q'.A q'.n q'.c, .bool q'.gd, .slice q'.Ad q'.nd q'.cd]] w (RetW z w) := by
  have M := hI ((((((Mem.nil w).old (x := .rat q) (by simp) h rfl).old (x := .rat q') (by simp [Rs.own]) h' rfl).newBox h _ rfl).newBox (q := q') (h'.on (below_new _ _)) (w.heap.size + 1) (by simp)).newNil (w.heap.size + 1 + 1) (by simp))
  have HV := hI (And.intro hx (And.intro hy hz))
  clear h h' hx hy hz
  go_enter Tryz.func72, Tryz.ntmps72
  go_wp2_with fail
  generalize hW : World.alloc (World.alloc (World.alloc w _) _) _ = V at *
  clear hW
  refine (add_okO (M.out.rat 4 rfl) (M.out.rat 3 rfl) HV.out.1 HV.out.2.1 HV.out.2.2).mono ?_
  rintro e w1 ⟨t, rfl, ht, hv, hb⟩
  have M1 := hI ((M.out.on hb).addRat ht)
  have HT := hI hv
  clear ht hv hb M HV
  go_wp2_with fail
  refine (must_ok t z w1 (M1.out.rat 0 rfl) HT.out).mono ?_
  rintro e w2 ⟨t2, rfl, ht, hv, hb⟩
  have M2 := hI ((M1.out.on hb).addRat ht)
  have HT2 := hI hv
  clear ht hv hb M1 HT
  obtain ⟨f0, f1, f2, f3⟩ := (M2.out.box 2 rfl).fs
  obtain ⟨c0, c1, c2, c3⟩ := (M2.out.box 2 rfl).cs
  go_wp2
  clear f0 f1 f2 f3 c0 c1 c2 c3
  generalize hU : World.setCell (World.setCell (World.setCell (World.setCell w2 _ _) _ _) _ _) _ _ = U
  have M3 := hI (M2.out.putU 2 rfl (M2.out.rat 0 rfl) hU)
  clear hU
  obtain ⟨j0, j1, j2, j3⟩ := (M3.out.box 2 rfl).cs
  refine bodyPost_ret (v := .agg #[.bool t2.g, .slice t2.A t2.n t2.c, .bool t2.gd, .slice t2.Ad t2.nd t2.cd]) (by simp [results, Tryz.results72, go_sem, j0, j1, j2, j3]) rfl ?_
  exact ⟨t2, rfl, (M3.out.box 2 rfl).sl, HT2.out, M3.out.bel⟩
theorem usum_no (q q' : RVal) (x y : Rat) (er : Int) (w : World) (h : q.In w) (h' : q'.In w) (hx : q.v = some x) (hy : q'.v = some y) (hz : addO x y = .error er) : Calls Tryz.prog 72 #[.agg #[.bool q.g, .slice q.A q.n q.c, .bool q.gd, .slice q.Ad q.nd q.cd], .agg #[.bool q'.g, .slice q'.A q'.n q'.c, .bool q'.gd, .slice q'.Ad q'.nd q'.cd]] w (PanW er w) := by
  have M := hI ((((((Mem.nil w).old (x := .rat q) (by simp) h rfl).old (x := .rat q') (by simp [Rs.own]) h' rfl).newBox h _ rfl).newBox (q := q') (h'.on (below_new _ _)) (w.heap.size + 1) (by simp)).newNil (w.heap.size + 1 + 1) (by simp))
  have HV := hI (And.intro hx (And.intro hy hz))
  clear h h' hx hy hz
  go_enter Tryz.func72, Tryz.ntmps72
  go_wp2_with fail
  generalize hW : World.alloc (World.alloc (World.alloc w _) _) _ = V at *
  clear hW
  have C := add_errO (M.out.rat 4 rfl) (M.out.rat 3 rfl) HV.out.1 HV.out.2.1 HV.out.2.2
  have HN := hI C.1
  refine C.2.mono ?_
  clear C
  rintro e w1 ⟨t, rfl, ht, hv, hv2, hb⟩
  have M1 := hI ((M.out.on hb).addRat ht)
  clear ht hv hv2 hb M HV
  go_wp2_with fail
  refine (must_no t er w1 (M1.out.rat 0 rfl) HN.out).mono ?_
  rintro e w2 ⟨rfl, hb⟩
  go_wp2
  exact ⟨rfl, rfl, (M1.out.on hb).bel⟩
theorem usum_any (q q' : RVal) (x y : Rat) (w : World) (h : q.In w) (h' : q'.In w) (hx : q.v = some x) (hy : q'.v = some y) : Calls Tryz.prog 72 #[.agg #[.bool q.g, .slice q.A q.n q.c, .bool q.gd, .slice q.Ad q.nd q.cd], .agg #[.bool q'.g, .slice q'.A q'.n q'.c, .bool q'.gd, .slice q'.Ad q'.nd q'.cd]] w (OutW (addO x y) w) := by
  rcases hz : addO x y with er | z
  · exact usum_no q q' x y er w h h' hx hy hz
  · exact usum_ok q q' x y z w h h' hx hy hz
theorem udifference_ok (q q' : RVal) (x y z : Rat) (w : World) (h : q.In w) (h' : q'.In w) (hx : q.v = some x) (hy : q'.v = some y) (hz : subO x y = .ok z) : Calls Tryz.prog 78 #[.agg #[.bool q.g, .slice q.A q.n q.c, .bool q.gd, .slice q.Ad q.nd q.cd], .agg #[.bool q'.g, .slice q'.A q'.n q'.c, .bool q'.gd, .slice q'.Ad q'.nd q'.cd]] w (RetW z w) := by
  have M := hI ((((((Mem.nil w).old (x := .rat q) (by simp) h rfl).old (x := .rat q') (by simp [Rs.own]) h' rfl).newBox h _ rfl).newBox (q := q') (h'.on (below_new _ _)) (w.heap.size + 1) (by simp)).newNil (w.heap.size + 1 + 1) (by simp))
  have HV := hI (And.intro hx (And.intro hy hz))
  clear h h' hx hy hz
  go_enter Tryz.func78, Tryz.ntmps78
  go_wp2_with fail
  generalize hW : World.alloc (World.alloc (World.alloc w _) _) _ = V at *
  clear hW
  refine (sub_okO (M.out.rat 4 rfl) (M.out.rat 3 rfl) HV.out.1 HV.out.2.1 HV.out.2.2).mono ?_
  rintro e w1 ⟨t, rfl, ht, hv, hb⟩
  have M1 := hI ((M.out.on hb).addRat ht)
  have HT := hI hv
  clear ht hv hb M HV
  go_wp2_with fail
  refine (must_ok t z w1 (M1.out.rat 0 rfl) HT.out).mono ?_
  rintro e w2 ⟨t2, rfl, ht, hv, hb⟩
  have M2 := hI ((M1.out.on hb).addRat ht)
  have HT2 := hI hv
  clear ht hv hb M1 HT
  obtain ⟨f0, f1, f2, f3⟩ := (M2.out.box 2 rfl).fs
  obtain ⟨c0, c1, c2, c3⟩ := (M2.out.box 2 rfl).cs
  go_wp2
  clear f0 f1 f2 f3 c0 c1 c2 c3
  generalize hU : World.setCell (World.setCell (World.setCell (World.setCell w2 _ _) _ _) _ _) _ _ = U
  have M3 := hI (M2.out.putU 2 rfl (M2.out.rat 0 rfl) hU)
  clear hU
  obtain ⟨j0, j1, j2, j3⟩ := (M3.out.box 2 rfl).cs
  refine bodyPost_ret (v := .agg #[.bool t2.g, .slice t2.A t2.n t2.c, .bool t2.gd, .slice t2.Ad t2.nd t2.cd]) (by simp [results, Tryz.results78, go_sem, j0, j1, j2, j3]) rfl ?_
  exact ⟨t2, rfl, (M3.out.box 2 rfl).sl, HT2.out, M3.out.bel⟩
theorem udifference_no (q q' : RVal) (x y : Rat) (er : Int) (w : World) (h : q.In w) (h' : q'.In w) (hx : q.v = some x) (hy : q'.v = some y) (hz : subO x y = .error er) : Calls Tryz.prog 78 #[.agg #[.bool q.g, .slice q.A q.n q.c, .bool q.gd, .slice q.Ad q.nd q.cd], .agg #[.bool q'.g, .slice q'.A q'.n q'.c, .bool q'.gd, .slice q'.Ad q'.nd q'.cd]] w (PanW er w) := by
  have M := hI ((((((Mem.nil w).old (x := .rat q) (by simp) h rfl).old (x := .rat q') (by simp [Rs.own]) h' rfl).newBox h _ rfl).newBox (q := q') (h'.on (below_new _ _)) (w.heap.size + 1) (by simp)).newNil (w.heap.size + 1 + 1) (by simp))
  have HV := hI (And.intro hx (And.intro hy hz))
  clear h h' hx hy hz
  go_enter Tryz.func78, Tryz.ntmps78
  go_wp2_with fail
  generalize hW : World.alloc (World.alloc (World.alloc w _) _) _ = V at *
  clear hW
  have C := sub_errO (M.out.rat 4 rfl) (M.out.rat 3 rfl) HV.out.1 HV.out.2.1 HV.out.2.2
  have HN := hI C.1
  refine C.2.mono ?_
  clear C
  rintro e w1 ⟨t, rfl, ht, hv, hv2, hb⟩
  have M1 := hI ((M.out.on hb).addRat ht)
  clear ht hv hv2 hb M HV
  go_wp2_with fail
  refine (must_no t er w1 (M1.out.rat 0 rfl) HN.out).mono ?_
  rintro e w2 ⟨rfl, hb⟩
  go_wp2
  exact ⟨rfl, rfl, (M1.out.on hb).bel⟩
theorem udifference_any (q q' : RVal) (x y : Rat) (w : World) (h : q.In w) (h' : q'.In w) (hx : q.v = some x) (hy : q'.v = some y) : Calls Tryz.prog 78 #[.agg #[.bool q.g, .slice q.A q.n q.c, .bool q.gd, .slice q.Ad q.nd q.cd], .agg #[.bool q'.g, .slice q'.A q'.n q'.c, .bool q'.gd, .slice q'.Ad q'.nd q'.cd]] w (OutW (subO x y) w) := by
  rcases hz : subO x y with er | z
  · exact udifference_no q q' x y er w h h' hx hy hz
  · exact udifference_ok q q' x y z w h h' hx hy hz
theorem uproduct_ok (q q' : RVal) (x y z : Rat) (w : World) (h : q.In w) (h' : q'.In w) (hx : q.v = some x) (hy : q'.v = some y) (hz : mulO x y = .ok z) : Calls Tryz.prog 123 #[.agg #[.bool q.g, .slice q.A q.n q.c, .bool q.gd, .slice q.Ad q.nd q.cd], .agg #[.bool q'.g, .slice q'.A q'.n q'.c, .bool q'.gd, .slice q'.Ad q'.nd q'.cd]] w (RetW z w) := by
  have M := hI ((((((Mem.nil w).old (x := .rat q) (by simp) h rfl).old (x := .rat q') (by simp [Rs.own]) h' rfl).newBox h _ rfl).newBox (q := q') (h'.on (below_new _ _)) (w.heap.size + 1) (by simp)).newNil (w.heap.size + 1 + 1) (by simp))
  have HV := hI (And.intro hx (And.intro hy hz))
  clear h h' hx hy hz
  go_enter Tryz.func123, Tryz.ntmps123
  go_wp2_with fail
  generalize hW : World.alloc (World.alloc (World.alloc w _) _) _ = V at *
  clear hW
  refine (mul_okO (M.out.rat 4 rfl) (M.out.rat 3 rfl) HV.out.1 HV.out.2.1 HV.out.2.2).mono ?_
  rintro e w1 ⟨t, rfl, ht, hv, hb⟩
  have M1 := hI ((M.out.on hb).addRat ht)
  have HT := hI hv
  clear ht hv hb M HV
  go_wp2_with fail
  refine (must_ok t z w1 (M1.out.rat 0 rfl) HT.out).mono ?_
  rintro e w2 ⟨t2, rfl, ht, hv, hb⟩
  have M2 := hI ((M1.out.on hb).addRat ht)
  have HT2 := hI hv
  clear ht hv hb M1 HT
  obtain ⟨f0, f1, f2, f3⟩ := (M2.out.box 2 rfl).fs
  obtain ⟨c0, c1, c2, c3⟩ := (M2.out.box 2 rfl).cs
  go_wp2
  clear f0 f1 f2 f3 c0 c1 c2 c3
  generalize hU : World.setCell (World.setCell (World.setCell (World.setCell w2 _ _) _ _) _ _) _ _ = U
  have M3 := hI (M2.out.putU 2 rfl (M2.out.rat 0 rfl) hU)
  clear hU
  obtain ⟨j0, j1, j2, j3⟩ := (M3.out.box 2 rfl).cs
  refine bodyPost_ret (v := .agg #[.bool t2.g, .slice t2.A t2.n t2.c, .bool t2.gd, .slice t2.Ad t2.nd t2.cd]) (by simp [results, Tryz.results123, go_sem, j0, j1, j2, j3]) rfl ?_
  exact ⟨t2, rfl, (M3.out.box 2 rfl).sl, HT2.out, M3.out.bel⟩
theorem uproduct_no (q q' : RVal) (x y : Rat) (er : Int) (w : World) (h : q.In w) (h' : q'.In w) (hx : q.v = some x) (hy : q'.v = some y) (hz : mulO x y = .error er) : Calls Tryz.prog 123 #[.agg #[.bool q.g, .slice q.A q.n q.c, .bool q.gd, .slice q.Ad q.nd q.cd], .agg #[.bool q'.g, .slice q'.A q'.n q'.c, .bool q'.gd, .slice q'.Ad q'.nd q'.cd]] w (PanW er w) := by
  have M := hI ((((((Mem.nil w).old (x := .rat q) (by simp) h rfl).old (x := .rat q') (by simp [Rs.own]) h' rfl).newBox h _ rfl).newBox (q := q') (h'.on (below_new _ _)) (w.heap.size + 1) (by simp)).newNil (w.heap.size + 1 + 1) (by simp))
  have HV := hI (And.intro hx (And.intro hy hz))
  clear h h' hx hy hz
  go_enter Tryz.func123, Tryz.ntmps123
  go_wp2_with fail
  generalize hW : World.alloc (World.alloc (World.alloc w _) _) _ = V at *
  clear hW
  have C := mul_errO (M.out.rat 4 rfl) (M.out.rat 3 rfl) HV.out.1 HV.out.2.1 HV.out.2.2
  have HN := hI C.1
  refine C.2.mono ?_
  clear C
  rintro e w1 ⟨t, rfl, ht, hv, hv2, hb⟩
  have M1 := hI ((M.out.on hb).addRat ht)
  clear ht hv hv2 hb M HV
  go_wp2_with fail
  refine (must_no t er w1 (M1.out.rat 0 rfl) HN.out).mono ?_
  rintro e w2 ⟨rfl, hb⟩
  go_wp2
  exact ⟨rfl, rfl, (M1.out.on hb).bel⟩
theorem uproduct_any (q q' : RVal) (x y : Rat) (w : World) (h : q.In w) (h' : q'.In w) (hx : q.v = some x) (hy : q'.v = some y) : Calls Tryz.prog 123 #[.agg #[.bool q.g, .slice q.A q.n q.c, .bool q.gd, .slice q.Ad q.nd q.cd], .agg #[.bool q'.g, .slice q'.A q'.n q'.c, .bool q'.gd, .slice q'.Ad q'.nd q'.cd]] w (OutW (mulO x y) w) := by
  rcases hz : mulO x y with er | z
  · exact uproduct_no q q' x y er w h h' hx hy hz
  · exact uproduct_ok q q' x y z w h h' hx hy hz
theorem uquotient_ok (q q' : RVal) (x y z : Rat) (w : World) (h : q.In w) (h' : q'.In w) (hx : q.v = some x) (hy : q'.v = some y) (hz : divO x y = .ok z) (h0 : y ≠ 0) : Calls Tryz.prog 132 #[.agg #[.bool q.g, .slice q.A q.n q.c, .bool q.gd, .slice q.Ad q.nd q.cd], .agg #[.bool q'.g, .slice q'.A q'.n q'.c, .bool q'.gd, .slice q'.Ad q'.nd q'.cd]] w (RetW z w) := by
  have M := hI ((((((Mem.nil w).old (x := .rat q) (by simp) h rfl).old (x := .rat q') (by simp [Rs.own]) h' rfl).newBox h _ rfl).newBox (q := q') (h'.on (below_new _ _)) (w.heap.size + 1) (by simp)).newNil (w.heap.size + 1 + 1) (by simp))
  have HV := hI (And.intro hx (And.intro hy hz))
  have H0 := hI h0
  clear h h' hx hy hz h0
  go_enter Tryz.func132, Tryz.ntmps132
  go_wp2_with fail
  generalize hW : World.alloc (World.alloc (World.alloc w _) _) _ = V at *
  clear hW
  refine (div_okO (M.out.rat 4 rfl) (M.out.rat 3 rfl) HV.out.1 HV.out.2.1 HV.out.2.2 H0.out).mono ?_
  rintro e w1 ⟨t, rfl, ht, hv, hb⟩
  have M1 := hI ((M.out.on hb).addRat ht)
  have HT := hI hv
  clear ht hv hb M HV
  go_wp2_with fail
  refine (must_ok t z w1 (M1.out.rat 0 rfl) HT.out).mono ?_
  rintro e w2 ⟨t2, rfl, ht, hv, hb⟩
  have M2 := hI ((M1.out.on hb).addRat ht)
  have HT2 := hI hv
  clear ht hv hb M1 HT
  obtain ⟨f0, f1, f2, f3⟩ := (M2.out.box 2 rfl).fs
  obtain ⟨c0, c1, c2, c3⟩ := (M2.out.box 2 rfl).cs
  go_wp2
  clear f0 f1 f2 f3 c0 c1 c2 c3
  generalize hU : World.setCell (World.setCell (World.setCell (World.setCell w2 _ _) _ _) _ _) _ _ = U
  have M3 := hI (M2.out.putU 2 rfl (M2.out.rat 0 rfl) hU)
  clear hU
  obtain ⟨j0, j1, j2, j3⟩ := (M3.out.box 2 rfl).cs
  refine bodyPost_ret (v := .agg #[.bool t2.g, .slice t2.A t2.n t2.c, .bool t2.gd, .slice t2.Ad t2.nd t2.cd]) (by simp [results, Tryz.results132, go_sem, j0, j1, j2, j3]) rfl ?_
  exact ⟨t2, rfl, (M3.out.box 2 rfl).sl, HT2.out, M3.out.bel⟩
theorem uquotient_no (q q' : RVal) (x y : Rat) (er : Int) (w : World) (h : q.In w) (h' : q'.In w) (hx : q.v = some x) (hy : q'.v = some y) (hz : divO x y = .error er) : Calls Tryz.prog 132 #[.agg #[.bool q.g, .slice q.A q.n q.c, .bool q.gd, .slice q.Ad q.nd q.cd], .agg #[.bool q'.g, .slice q'.A q'.n q'.c, .bool q'.gd, .slice q'.Ad q'.nd q'.cd]] w (PanW er w) := by
  have M := hI ((((((Mem.nil w).old (x := .rat q) (by simp) h rfl).old (x := .rat q') (by simp [Rs.own]) h' rfl).newBox h _ rfl).newBox (q := q') (h'.on (below_new _ _)) (w.heap.size + 1) (by simp)).newNil (w.heap.size + 1 + 1) (by simp))
  have HV := hI (And.intro hx (And.intro hy hz))
  clear h h' hx hy hz
  go_enter Tryz.func132, Tryz.ntmps132
  go_wp2_with fail
  generalize hW : World.alloc (World.alloc (World.alloc w _) _) _ = V at *
  clear hW
  have C := div_errO (M.out.rat 4 rfl) (M.out.rat 3 rfl) HV.out.1 HV.out.2.1 HV.out.2.2
  have HN := hI C.1
  refine C.2.mono ?_
  clear C
  rintro e w1 ⟨t, rfl, ht, hv, hv2, hb⟩
  have M1 := hI ((M.out.on hb).addRat ht)
  clear ht hv hv2 hb M HV
  go_wp2_with fail
  refine (must_no t er w1 (M1.out.rat 0 rfl) HN.out).mono ?_
  rintro e w2 ⟨rfl, hb⟩
  go_wp2
  exact ⟨rfl, rfl, (M1.out.on hb).bel⟩
theorem uquotient_any (q q' : RVal) (x y : Rat) (w : World) (h : q.In w) (h' : q'.In w) (hx : q.v = some x) (hy : q'.v = some y) (h0 : y ≠ 0) : Calls Tryz.prog 132 #[.agg #[.bool q.g, .slice q.A q.n q.c, .bool q.gd, .slice q.Ad q.nd q.cd], .agg #[.bool q'.g, .slice q'.A q'.n q'.c, .bool q'.gd, .slice q'.Ad q'.nd q'.cd]] w (OutW (divO x y) w) := by
  rcases hz : divO x y with er | z
  · exact uquotient_no q q' x y er w h h' hx hy hz
  · exact uquotient_ok q q' x y z w h h' hx hy hz h0
theorem of_one (n : Int) : mkN (some n) (some 1) = ((n : Rat)).num ∧ mkD (some n) (some 1) = (((n : Rat)).den : Int) ∧ mkE (some n) (some 1) = 0 := by
  have m := mk_ok (s := n) (d := 1) (by decide)
  rw [show Rat.divInt n 1 = (n : Rat) from by simpa using Rat.num_divInt_den (n : Rat)] at m
  exact m
theorem unumber_any (n : Int) (w : World) (h1 : -9223372036854775808 ≤ n) (h2 : n ≤ 9223372036854775807) : Calls Tryz.prog 122 #[.int .i64 n] w (RetW (n : Rat) w) := by
  have M := hI ((Mem.nil w).newNil _ rfl)
  have C0 := hI fun W => ratOf_any n 1 W h1 h2 (by decide) (by decide)
  have E := hI (of_one n)
  clear h1 h2
  go_enter Tryz.func122, Tryz.ntmps122
  go_wp2_with fail
  generalize hW : World.alloc w _ = V at *
  clear hW
  have C := C0.out V
  rw [E.out.1, E.out.2.1, E.out.2.2] at C
  refine C.mono ?_
  clear C C0
  rintro e w1 ⟨t, rfl, ht, hv, hv2, hb⟩
  have M1 := hI ((M.out.on hb).addRat ht)
  have HT := hI (show t.v = some (n : Rat) by unfold RVal.v; rw [hv, hv2]; exact rv_of _)
  clear ht hv hv2 hb M
  go_wp2_with fail
  refine (must_ok t _ w1 (M1.out.rat 0 rfl) HT.out).mono ?_
  rintro e w2 ⟨t2, rfl, ht, hv, hb⟩
  have M2 := hI ((M1.out.on hb).addRat ht)
  have HT2 := hI hv
  clear ht hv hb M1 HT
  obtain ⟨f0, f1, f2, f3⟩ := (M2.out.box 2 rfl).fs
  obtain ⟨c0, c1, c2, c3⟩ := (M2.out.box 2 rfl).cs
  go_wp2
  clear f0 f1 f2 f3 c0 c1 c2 c3
  generalize hU : World.setCell (World.setCell (World.setCell (World.setCell w2 _ _) _ _) _ _) _ _ = U
  have M3 := hI (M2.out.putU 2 rfl (M2.out.rat 0 rfl) hU)
  clear hU
  obtain ⟨j0, j1, j2, j3⟩ := (M3.out.box 2 rfl).cs
  refine bodyPost_ret (v := .agg #[.bool t2.g, .slice t2.A t2.n t2.c, .bool t2.gd, .slice t2.Ad t2.nd t2.cd]) (by simp [results, Tryz.results122, go_sem, j0, j1, j2, j3]) rfl ?_
  exact ⟨t2, rfl, (M3.out.box 2 rfl).sl, HT2.out, M3.out.bel⟩
theorem n_zero {q : RVal} {x : Rat} {w : World} (h : q.In w) (hx : q.v = some x) : decide (q.n = 0) = decide (x.num = 0) := ov_len0 h.1 (rv_some hx).1
theorem uisZero_any (q : RVal) (w : World) (h : q.In w) : Calls Tryz.prog 63 #[.agg #[.bool q.g, .slice q.A q.n q.c, .bool q.gd, .slice q.Ad q.nd q.cd]] w fun e w' => e = .returned (.bool (decide (q.n = 0))) ∧ Below w.heap.size w w' := by
  have M := hI ((((Mem.nil w).old (x := .rat q) (by simp) h rfl).newBox h _ rfl))
  clear h
  go_enter Tryz.func63, Tryz.ntmps63
  go_wp2
  go_ret
  refine ⟨?_, M.out.bel⟩
  show Ending.returned (.bool (((q.n : Nat) : Int) == 0)) = _
  congr 2
  rw [Bool.eq_iff_iff, beq_iff_eq, decide_eq_true_iff]
  omega
end Go.Proofs.YtjbnclfbkccieaaGreatDoor
namespace Go.Proofs.YtjbnclfbkccieaaGreatDoor
open Go.RowKit
/-- The values of a list. -/
def Vs (L : List RVal) (l : List Rat) : Prop := L.map RVal.v = l.map some
theorem Vs.len {L : List RVal} {l : List Rat} (h : Vs L l) : L.length = l.length := by have := congrArg List.length h; simpa using this
theorem Vs.at_ {L : List RVal} {l : List Rat} (h : Vs L l) {k : Nat} {q : RVal} (hk : L[k]? = some q) : q.v = some (coef l k) := by
  have := congrArg (fun t => t[k]?) h
  simp only [List.getElem?_map, hk, Option.map_some] at this
  unfold coef
  rw [List.getD_eq_getElem?_getD]
  rcases hl : l[k]? with _ | y
  · rw [hl] at this; cases this
  · rw [hl] at this
    injection this with this
theorem ucoef_in (A : Option Addr) (n c i : Nat) (L : List RVal) (l : List Rat) (w : World) (h : PSl w A n c L) (hv : Vs L l) (hi : i < n) : Calls Tryz.prog 125 #[.slice A n c, .int .i64 (i : Int)] w (RetW (coef l i) w) := by
  obtain ⟨ad, q, p, rfl, hk, hp⟩ := h.el hi
  have HV := hI (hv.at_ hk)
  have hr := h.reach
  have HQ := hI (h.ins q (List.mem_of_getElem? hk))
  have M := hI (((Mem.nil w).old (x := .pol (some ad) n c L) (by simp) h rfl).newNil _ rfl)
  obtain ⟨c0, c1, c2, c3⟩ := (M.out.pol 1 rfl).c4 rfl hk hp
  clear h hv hk
  go_enter Tryz.func125, Tryz.ntmps125
  go_wp2
  refine bodyPost_ret (v := .agg #[.bool q.g, .slice q.A q.n q.c, .bool q.gd, .slice q.Ad q.nd q.cd]) (by simp [results, Tryz.results125, go_sem]) rfl ?_
  exact ⟨q, rfl, HQ.out.on (below_new _ _), HV.out, below_new _ _⟩
theorem ucoef_out (A : Option Addr) (n c i : Nat) (w : World) (hi : n ≤ i) (_hm : i ≤ 2199023255552) : Calls Tryz.prog 125 #[.slice A n c, .int .i64 (i : Int)] w (RetW 0 w) := by
  have M := hI ((Mem.nil w).newNil _ rfl)
  go_enter Tryz.func125, Tryz.ntmps125
  go_wp2_with fail
  generalize hW : World.alloc w _ = V at *
  clear hW
  refine (unumber_any 0 V (by decide) (by decide)).mono ?_
  rintro e w2 ⟨t2, rfl, ht, hv, hb⟩
  have M2 := hI ((M.out.on hb).addRat ht)
  have HT2 := hI hv
  clear ht hv hb M
  obtain ⟨f0, f1, f2, f3⟩ := (M2.out.box 1 rfl).fs
  obtain ⟨c0, c1, c2, c3⟩ := (M2.out.box 1 rfl).cs
  go_wp2
  clear f0 f1 f2 f3 c0 c1 c2 c3
  generalize hU : World.setCell (World.setCell (World.setCell (World.setCell w2 _ _) _ _) _ _) _ _ = U
  have M3 := hI (M2.out.putU 1 rfl (M2.out.rat 0 rfl) hU)
  clear hU
  obtain ⟨j0, j1, j2, j3⟩ := (M3.out.box 1 rfl).cs
  refine bodyPost_ret (v := .agg #[.bool t2.g, .slice t2.A t2.n t2.c, .bool t2.gd, .slice t2.Ad t2.nd t2.cd]) (by simp [results, Tryz.results125, go_sem, j0, j1, j2, j3]) rfl ?_
  exact ⟨t2, rfl, (M3.out.box 1 rfl).sl, by rw [HT2.out]; rfl, M3.out.bel⟩
theorem coef_out {l : List Rat} {i : Nat} (h : l.length ≤ i) : coef l i = 0 := by unfold coef; rw [List.getD_eq_getElem?_getD, List.getElem?_eq_none h]; rfl
theorem ucoef_any (A : Option Addr) (n c i : Nat) (L : List RVal) (l : List Rat) (w : World) (h : PSl w A n c L) (hv : Vs L l) (hm : i ≤ 2199023255552) : Calls Tryz.prog 125 #[.slice A n c, .int .i64 (i : Int)] w (RetW (coef l i) w) := by
  by_cases hi : i < n
  · exact ucoef_in A n c i L l w h hv hi
  · rw [coef_out (show l.length ≤ i by rw [← hv.len, h.len]; omega)]
    exact ucoef_out A n c i w (by omega) hm
theorem ptrim_snoc (l : List Rat) (x : Rat) : ptrim (l ++ [x]) = if x.num = 0 then ptrim l else l ++ [x] := by
  induction l with
  | nil => rfl
  | cons a l ih =>
    show (match ptrim (l ++ [x]) with | [] => if a.num = 0 then [] else [a] | b :: q => a :: b :: q) = _
    rw [ih]
    by_cases h : x.num = 0
    · rw [if_pos h, if_pos h]; rfl
    · rw [if_neg h, if_neg h]
      rcases hl : l ++ [x] with _ | ⟨b, q⟩
      · simp at hl
      · rw [List.cons_append, hl]
theorem ptrim_take (l : List Rat) {k : Nat} (hk : k < l.length) (h : (coef l k).num = 0) : ptrim (l.take k) = ptrim (l.take (k + 1)) := by
  have e : l.take (k + 1) = l.take k ++ [coef l k] := by
    rw [List.take_succ_eq_append_getElem hk]
    unfold coef
    rw [List.getD_eq_getElem?_getD, List.getElem?_eq_getElem hk]
    rfl
  rw [e, ptrim_snoc, if_pos h]
theorem ptrim_stop (l : List Rat) {k : Nat} (hk : k < l.length) (h : ¬ (coef l k).num = 0) : ptrim (l.take (k + 1)) = l.take (k + 1) := by
  have e : l.take (k + 1) = l.take k ++ [coef l k] := by
    rw [List.take_succ_eq_append_getElem hk]
    unfold coef
    rw [List.getD_eq_getElem?_getD, List.getElem?_eq_getElem hk]
    rfl
  rw [e, ptrim_snoc, if_neg h]
def PTr (w : World) (A : Option Addr) (n c : Nat) (L : List RVal) (l : List Rat) (k : Nat) (wr : World) : Prop := k ≤ n ∧ ptrim (l.take k) = ptrim l ∧ Mem w wr [.pol A n c L]
theorem utrim_any (A : Option Addr) (n c : Nat) (L : List RVal) (l : List Rat) (w : World) (h : PSl w A n c L) (hv : Vs L l) : Calls Tryz.prog 126 #[.slice A n c] w fun e w' => e = .returned (.slice A (ptrim l).length c) ∧ Below w.heap.size w w' := by
  have hr := h.reach
  have hc := h.cap
  have hcr := h.capr
  have H0 := hI (show PTr w A n c L l n w from ⟨Nat.le_refl _, by rw [← h.len, hv.len, List.take_length], (Mem.nil w).old (x := .pol A n c L) (by simp) h rfl⟩)
  have HV := hI hv
  clear h hv
  go_enter Tryz.func126, Tryz.ntmps126
  go_wp2_with fail
  go_loopw [3] (fun v wr => ∃ k : Nat, v = .int .i64 k ∧ Hid (PTr w A n c L l k wr)) (fun v _ => (intOf v).toNat)
  case atStart => exact ⟨n, rfl, H0⟩
  case round =>
    obtain ⟨k, rfl, HR⟩ := hrel
    clear H0
    have hk := HR.out.1
    rcases k with _ | k
    · go_wp2
      go_ret
      exact ⟨by rw [← HR.out.2.1]; rfl, HR.out.2.2.bel⟩
    · obtain ⟨ad, q, p, rfl, hq, hp⟩ := (HR.out.2.2.pol 0 rfl).el hk
      have HQ := hI ((HR.out.2.2.pol 0 rfl).ins q (List.mem_of_getElem? hq))
      have HZ := hI (n_zero HQ.out (HV.out.at_ hq))
      have HL := hI (show k < l.length by rw [← HV.out.len, (HR.out.2.2.pol 0 rfl).len]; omega)
      obtain ⟨c0, c1, c2, c3⟩ := (HR.out.2.2.pol 0 rfl).c4 rfl hq hp
      clear hq
      have hk1 : (0 : Int) < (k : Int) + 1 := by omega
      by_cases hz : (coef l k).num = 0
      · have HZ1 := hI (HZ.out.trans (decide_eq_true hz))
        have C0 := hI fun W h => by have C := uisZero_any q W h; rw [HZ1.out] at C; exact C
        have HR1 := hI (show ∀ W, Below wr.heap.size wr W → PTr w (some ad) n c L l k W from fun W hb => ⟨by omega, (ptrim_take l HL.out hz).trans HR.out.2.1, HR.out.2.2.on hb⟩)
        clear hz HZ HZ1 HL
        go_wp2_with fail
        refine (C0.out wr HQ.out).mono ?_
        rintro e w1 ⟨rfl, hb⟩
        have HR2 := hI (HR1.out w1 hb)
        clear hb c0 c1 c2 c3 HR HR1 HQ C0
        go_wp2
        go_roundw
        case rel => exact ⟨k, by go_num, HR2⟩
        case measure => simp [intOf]
      · have HZ1 := hI (HZ.out.trans (decide_eq_false hz))
        have C0 := hI fun W h => by have C := uisZero_any q W h; rw [HZ1.out] at C; exact C
        have HE := hI (show (ptrim l).length = k + 1 by rw [← HR.out.2.1, ptrim_stop l HL.out hz, List.length_take]; have := HL.out; omega)
        clear hz HZ HZ1 HL
        go_wp2_with fail
        refine (C0.out wr HQ.out).mono ?_
        rintro e w1 ⟨rfl, hb⟩
        have HB := hI (HR.out.2.2.on hb).bel
        clear hb c0 c1 c2 c3 HR HQ C0
        go_wp2
        go_ret
        exact ⟨by rw [HE.out]; rfl, HB.out⟩
theorem utrim_psl {A : Option Addr} {n c : Nat} {L : List RVal} {l : List Rat} {w : World} (h : PSl w A n c L) (hv : Vs L l) : PSl w A (ptrim l).length c (L.take (ptrim l).length) ∧ Vs (L.take (ptrim l).length) (ptrim l) := by
  have e : ∀ (l : List Rat), ∃ k, k ≤ l.length ∧ ptrim l = l.take k := by
    intro l
    induction l with
    | nil => exact ⟨0, Nat.le_refl _, rfl⟩
    | cons a l ih =>
      obtain ⟨k, hk, e⟩ := ih
      show ∃ k, k ≤ l.length + 1 ∧ (match ptrim l with | [] => if a.num = 0 then [] else [a] | b :: q => a :: b :: q) = (a :: l).take k
      rcases hl : ptrim l with _ | ⟨b, m⟩
      · by_cases h0 : a.num = 0
        · exact ⟨0, by omega, by show (if a.num = 0 then [] else [a]) = []; rw [if_pos h0]⟩
        · exact ⟨1, by omega, by show (if a.num = 0 then [] else [a]) = [a]; rw [if_neg h0]⟩
      · refine ⟨k + 1, by omega, ?_⟩
        show a :: b :: m = a :: l.take k
        rw [← e, hl]
  obtain ⟨k, hk, ek⟩ := e l
  have hl : (ptrim l).length = k := by rw [ek, List.length_take]; omega
  rw [hl]
  refine ⟨h.take (by rw [← h.len, hv.len]; exact hk), ?_⟩
  rw [ek]
  unfold Vs
  rw [List.map_take, List.map_take]
  exact congrArg (List.take k) hv
end Go.Proofs.YtjbnclfbkccieaaGreatDoor
