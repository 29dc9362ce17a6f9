/-
 Stage 2: the reference's simplest number between two that are not negative.
-/
import Derived.Deep.LoopGhost
import Derived.Deep.DeepCutAuto
import Derived.Deep.CutBlock
import Derived.Test.YtphinlongdoedaaGreatRatPw
import Derived.Test.YtphinlongdoedaaGreatRatCo
namespace Go.Proofs.YtphinlongdoedaaGreat
open Go.RowKit
set_option linter.unusedSimpArgs false
set_option maxRecDepth 20000
set_option maxHeartbeats 20000000
theorem zB6 {P : Program} {ops : Array Oper} {Q : Exit -> Act -> World -> Prop} {md : Region.Mode} {C : Nat -> World -> Prop} {lvl : Nat -> Nat} (rs : List Nat) {k : Nat} {l : Array Bool} {a : Act} {w : World} (hr : Region.ready md ops l = rs) (hne : rs ≠ [])
 (h : ∀ i ∈ rs, ∃ o, ops[i]? = some o /\ ∀ K' : Act -> World -> Prop, Shut (∀ a w, C (lvl i) w -> AnyL P md ops Q C lvl k (l.setIfInBounds i true) a w -> K' a w) -> if Region.wanted o (yielded ops a.tmps) = true then Oper.wp P o a w K' Q else K' (a.put o.dst undef) w) : AnyL P md ops Q C lvl (k + 1) l a w := by
 refine ⟨fun e => absurd (hr.symm.trans e) hne, fun j hj => ?_⟩
 rw [hr] at hj
 obtain ⟨o, ho, g⟩ := h j hj
 exact wpOp_step ho (fun K' hK => g K' (fun a w x y => hK a w ⟨x, y⟩))
theorem mem4 {P : Nat -> Prop} {a b c d : Nat} (h1 : P a) (h2 : P b) (h3 : P c) (h4 : P d) : ∀ i ∈ [a, b, c, d], P i := by
 intro i hi
 simp only [List.mem_cons, List.not_mem_nil, or_false] at hi
 rcases hi with rfl | rfl | rfl | rfl <;> assumption
theorem mem3 {P : Nat -> Prop} {a b c : Nat} (h1 : P a) (h2 : P b) (h3 : P c) : ∀ i ∈ [a, b, c], P i := by
 intro i hi
 simp only [List.mem_cons, List.not_mem_nil, or_false] at hi
 rcases hi with rfl | rfl | rfl <;> assumption
theorem mem2 {P : Nat -> Prop} {a b : Nat} (h1 : P a) (h2 : P b) : ∀ i ∈ [a, b], P i := by
 intro i hi
 simp only [List.mem_cons, List.not_mem_nil, or_false] at hi
 rcases hi with rfl | rfl <;> assumption
theorem mem1 {P : Nat -> Prop} {a : Nat} (h1 : P a) : ∀ i ∈ [a], P i := by
 intro i hi
 rw [List.mem_singleton] at hi
 subst hi; assumption
def PosM (w : World) (r ro : Nat) (p q : RVal) (s6 s7 s8 s9 : Value) (wx : World) : Prop :=
 ∃ b0 b1 b2 b3 : Nat, s6 = .pointer (some ⟨b0, 0, none⟩) /\ s7 = .pointer (some ⟨b1, 0, none⟩) /\ s8 = .pointer (some ⟨b2, 0, none⟩) /\ s9 = .pointer (some ⟨b3, 0, none⟩) ∧
   (ro < b0 /\ ro < b1 /\ ro < b2 /\ ro < b3 /\ b0 ≠ b1 /\ b0 ≠ b2 /\ b0 ≠ b3 /\ b1 ≠ b2 /\ b1 ≠ b3 /\ b2 ≠ b3) ∧
   Ba wx b0 p.g p.A p.n p.c p.xs /\ Ba wx b1 p.gd p.Ad p.nd p.cd p.ys /\ Ba wx b2 q.g q.A q.n q.c q.xs /\ Ba wx b3 q.gd q.Ad q.nd q.cd q.ys /\ Rb wx ro RVal.nil /\ Below r w wx
theorem zC6 (V : World) (x0 x1 x2 x3 : IV) (h0 : Sl V V.heap.size x0.A x0.n x0.c x0.xs) (h1 : Sl V V.heap.size x1.A x1.n x1.c x1.xs) (h2 : Sl V V.heap.size x2.A x2.n x2.c x2.xs) (h3 : Sl V V.heap.size x3.A x3.n x3.c x3.xs) {W : World}
 (hW : W = (((V.alloc (.cells #[.bool x0.g, .slice x0.A x0.n x0.c] 24)).alloc (.cells #[.bool x1.g, .slice x1.A x1.n x1.c] 24)).alloc (.cells #[.bool x2.g, .slice x2.A x2.n x2.c] 24)).alloc (.cells #[.bool x3.g, .slice x3.A x3.n x3.c] 24)) :
 Ba W V.heap.size x0.g x0.A x0.n x0.c x0.xs /\ Ba W (V.heap.size + 1) x1.g x1.A x1.n x1.c x1.xs /\ Ba W (V.heap.size + 1 + 1) x2.g x2.A x2.n x2.c x2.xs /\ Ba W (V.heap.size + 1 + 1 + 1) x3.g x3.A x3.n x3.c x3.xs /\ Below V.heap.size V W := by
 subst hW
 have b1 := zA0 V (.cells #[.bool x0.g, .slice x0.A x0.n x0.c] 24)
 have a0 : Ba _ _ _ _ _ _ _ := ⟨Bx.new V x0.g x0.A x0.n x0.c, h0.on b1⟩
 have s1 : (V.alloc (.cells #[.bool x0.g, .slice x0.A x0.n x0.c] 24)).heap.size = V.heap.size + 1 := by simp
 generalize V.alloc (.cells #[.bool x0.g, .slice x0.A x0.n x0.c] 24) = V1 at *
 have b2 := zA0 V1 (.cells #[.bool x1.g, .slice x1.A x1.n x1.c] 24)
 have a1 : Ba _ _ _ _ _ _ _ := ⟨Bx.new V1 x1.g x1.A x1.n x1.c, (h1.on b1).on b2⟩
 have s2 : (V1.alloc (.cells #[.bool x1.g, .slice x1.A x1.n x1.c] 24)).heap.size = V.heap.size + 1 + 1 := by simp [s1]
 rw [s1] at a1
 replace a0 := a0.on b2
 have c2 := zA b1 b1.size b2
 generalize V1.alloc (.cells #[.bool x1.g, .slice x1.A x1.n x1.c] 24) = V2 at *
 have b3 := zA0 V2 (.cells #[.bool x2.g, .slice x2.A x2.n x2.c] 24)
 have a2 : Ba _ _ _ _ _ _ _ := ⟨Bx.new V2 x2.g x2.A x2.n x2.c, (h2.on c2).on b3⟩
 have s3 : (V2.alloc (.cells #[.bool x2.g, .slice x2.A x2.n x2.c] 24)).heap.size = V.heap.size + 1 + 1 + 1 := by simp [s2]
 rw [s2] at a2
 replace a0 := a0.on b3
 replace a1 := a1.on b3
 have c3 := zA c2 c2.size b3
 generalize V2.alloc (.cells #[.bool x2.g, .slice x2.A x2.n x2.c] 24) = V3 at *
 have b4 := zA0 V3 (.cells #[.bool x3.g, .slice x3.A x3.n x3.c] 24)
 have a3 : Ba _ _ _ _ _ _ _ := ⟨Bx.new V3 x3.g x3.A x3.n x3.c, (h3.on c3).on b4⟩
 rw [s3] at a3
 exact ⟨a0.on b4, a1.on b4, a2.on b4, a3, zA c3 c3.size b4⟩
theorem part_big {n d m f n0 d0 m0 f0 : Int} {ps rest PS : List Int} (h : Sta n d m f) (hm : m.natAbs < BIG) (r : Run n d m f rest) (r0 : Run n0 d0 m0 f0 PS) (h0 : Sta n0 d0 m0 f0) (e : PS = ps ++ rest) (big : ¬ (n / d + 1).natAbs < BIG) : ¬ Fits (fv PS).1 (fv PS).2 := by
 subst e
 have q0 := h.q0
 have dp := h.dpos
 have fz : f = 0 := by
  by_cases k : f = 0
  . exact k
  . have f0 := h.f0
    have : n / d * 1 <= n / d * f := Int.mul_le_mul_of_nonneg_left (by omega) q0
    omega
 have w := fv_way r0 h0
 have e1 : (fv rest).1 = n / d + 1 := by
  cases r with
  | last g => show (n / d + 1) * 1 + 0 = _; omega
  | next g r => have := h.m0; rw [fz, Int.mul_zero] at g; omega
 rw [e1] at w
 have p := fv_bd r0 h0
 intro k
 have k1 := k.1
 have k2 := k.2
 omega
theorem part_fold {n0 d0 m0 f0 : Int} {ps rest PS : List Int} (r0 : Run n0 d0 m0 f0 PS) (h0 : Sta n0 d0 m0 f0) (e : PS = ps ++ rest) (big : ¬ (fv rest).1.natAbs < BIG) (pos : 0 <= (fv rest).1) : ¬ Fits (fv PS).1 (fv PS).2 := by
 subst e
 have w := fv_way r0 h0
 have p := fv_bd r0 h0
 intro k
 have k1 := k.1
 have k2 := k.2
 omega
theorem run_last {n d m f : Int} {rest : List Int} (r : Run n d m f rest) (g : (n / d + 1) * f < m) : rest = [n / d + 1] := by
 cases r with
 | last _ => rfl
 | next k _ => exact absurd g k
theorem run_next {n d m f : Int} {rest : List Int} (r : Run n d m f rest) (g : ¬ (n / d + 1) * f < m) : ∃ ps, rest = n / d :: ps /\ Run f (m - n / d * f) d (n % d) ps := by
 cases r with
 | last k => exact absurd k g
 | next _ k => exact ⟨_, rfl, k⟩
def PoEnd (PS : List Int) (z zd er : Int) : Prop := (Fits (fv PS).1 (fv PS).2 /\ z = (fv PS).1 /\ zd = (fv PS).2 /\ er = 0) \/ (¬ Fits (fv PS).1 (fv PS).2 /\ z = 0 /\ zd = 0 /\ er = 2)
theorem PoEnd.bad {PS : List Int} {z zd er : Int} (h : PoEnd PS z zd er) (k : ¬ Fits (fv PS).1 (fv PS).2) : z = 0 /\ zd = 0 /\ er = 2 := by
 rcases h with h | h
 . exact absurd h.1 k
 . exact h.2
def ZMid (B : Nat) (w0 : World) (z er : Int) (p s : Value) (wx : World) : Prop := ∃ r g A n c xs, p = .pointer (some ⟨r, 0, none⟩) /\ s = .int .i64 er /\ Ba wx r g A n c xs /\ ov g xs = some z /\ Below B w0 wx
section
variable {B r n c : Nat} {w0 v : World} {z er : Int} {g : Bool} {A : Option Addr} {xs : List Nat}
theorem zMid_old (bn : Bx v r false none 0 0) (hB : Below B w0 v) (hle : B <= r) (hs : Sl v v.heap.size A n c xs) (ho : ov g xs = some z) :
 ZMid B w0 z er (.pointer (some ⟨r, 0, none⟩)) (.int .i64 er) ((v.setCell ⟨r, 0, none⟩ (.bool g)).setCell ⟨r, 1, none⟩ (.slice A n c)) :=
 ⟨r, g, A, n, c, xs, rfl, rfl, (⟨bn, Sl.nil _ _⟩ : Ba v r false none 0 0 []).stored hs g, ho, zA1 hB hle _ _⟩
theorem zMid_new (hB : Below B w0 v) (hle : B <= v.heap.size) (hs : Sl v v.heap.size A n c xs) (ho : ov g xs = some z) :
 ZMid B w0 z er (.pointer (some ⟨v.heap.size, 0, none⟩)) (.int .i64 er) (v.alloc (.cells #[.bool g, .slice A n c] 24)) :=
 ⟨v.heap.size, g, A, n, c, xs, rfl, rfl, ⟨Bx.new _ _ _ _ _, hs.on (zA0 _ _)⟩, ho, hB.alloc hle _⟩
end
theorem zF3.get {w : World} {base g m cap : Nat} {L : List IV} {ps : List Int} (h : zF3 w base (.slice (some ⟨g, 0, none⟩) m cap) L ps) {k : Nat} (hk : k < ps.length) : ∃ x : IV, w.cell? ⟨g, k * 2, none⟩ = some (.bool x.g) /\ w.cell? ⟨g, k * 2 + 1, none⟩ = some (.slice x.A x.n x.c) /\ Sl w w.heap.size x.A x.n x.c x.xs /\ ov x.g x.xs = some (ps.getD k 0) := by
 obtain ⟨g', cap', x, e, c0, c1, hs, ho, _⟩ := h.at_ hk
 injection e with e1 e2 e3
 injection e1 with e1
 injection e1 with e1
 subst e1
 exact ⟨x, c0, c1, hs, ho⟩
theorem fv_drop {PS : List Int} {j : Nat} (h : j < PS.length) : fv (PS.drop j) = (PS.getD j 0 * (fv (PS.drop (j + 1))).1 + (fv (PS.drop (j + 1))).2, (fv (PS.drop (j + 1))).1) := by
 rw [List.drop_eq_getElem_cons h, List.getD_eq_getElem?_getD, List.getElem?_eq_getElem h]
 rfl
theorem drop_pos {n d m f : Int} {PS : List Int} (r : Run n d m f PS) (h : Sta n d m f) {j : Nat} (hj : j < PS.length) : 0 <= PS.getD j 0 /\ 0 < (fv (PS.drop (j + 1))).1 /\ 0 <= (fv (PS.drop (j + 1))).2 := by
 cases PS with
 | nil => exact absurd hj (Nat.not_lt_zero _)
 | cons p ps =>
   have a := run_tail r h
   have t := fv_pos (ps := ps.drop j) fun x hx => a.2 x (List.mem_of_mem_drop hx)
   refine ⟨?_, t.1, t.2⟩
   cases j with
   | zero => exact a.1
   | succ j =>
     have hj' : j < ps.length := by simpa using hj
     have e : (p :: ps).getD (j + 1) 0 = ps[j] := by rw [List.getD_eq_getElem?_getD, List.getElem?_cons_succ, List.getElem?_eq_getElem hj']; rfl
     rw [e]
     have := a.2 _ (List.getElem_mem hj')
     omega
theorem drop_big {n d m f : Int} {PS : List Int} {z zd er : Int} (r : Run n d m f PS) (h : Sta n d m f) (e : PoEnd PS z zd er) {j : Nat} (hj : j < PS.length) (big : ¬ (fv (PS.drop j)).1.natAbs < BIG) : z = 0 /\ zd = 0 /\ er = 2 := by
 have a := drop_pos r h hj
 have b : 0 <= (fv (PS.drop j)).1 := by
  rw [fv_drop hj]
  have : 0 <= PS.getD j 0 * (fv (PS.drop (j + 1))).1 := Int.mul_nonneg a.1 (by omega)
  show 0 <= PS.getD j 0 * (fv (PS.drop (j + 1))).1 + (fv (PS.drop (j + 1))).2
  omega
 exact e.bad (part_fold (ps := PS.take j) r h (List.take_append_drop j PS).symm big b)
structure PosX (w0 : World) (r ro bx g m cap : Nat) (PS : List Int) (j : Nat) (q : RVal) (L : List IV) (wr : World) : Prop where
 xx : Rb wr bx q
 xo : Rb wr ro RVal.nil
 bel : Below r w0 wr
 pt : zF3 wr r (.slice (some ⟨g, 0, none⟩) m cap) L PS
 o : q.o = some (fv (PS.drop j)).1
 od : q.od = some (fv (PS.drop j)).2
structure PosW (w0 : World) (r ro bo b0 b1 b2 b3 : Nat) (P : Int) (g1 : Bool) (A1 : Option Addr) (n1 c1 : Nat) (xs1 : List Nat) (PS : List Int) (n d m f : Int) (qa qb : RVal) (v : Value) (L : List IV) (ps : List Int) (wr : World) : Prop where
 z0 : Ba wr b0 qa.g qa.A qa.n qa.c qa.xs
 z1 : Ba wr b1 qa.gd qa.Ad qa.nd qa.cd qa.ys
 z2 : Ba wr b2 qb.g qb.A qb.n qb.c qb.xs
 z3 : Ba wr b3 qb.gd qb.Ad qb.nd qb.cd qb.ys
 zo : Ba wr bo g1 A1 n1 c1 xs1
 xo : Rb wr ro RVal.nil
 bel : Below r w0 wr
 o1 : ov qa.g qa.xs = some n
 o2 : ov qa.gd qa.ys = some d
 o3 : ov qb.g qb.xs = some m
 o4 : ov qb.gd qb.ys = some f
 pt : zF3 wr r v L ps
 np : ∀ k, v.ownBlock = some k -> k ≠ b0 /\ k ≠ b1 /\ k ≠ b2 /\ k ≠ b3 /\ k ≠ bo /\ k ≠ ro
 st : Sta n d m f
 few : Few 8192 P n d f ps.length
 run : ∃ rest, Run n d m f rest /\ PS = ps ++ rest
def PosE (w0 : World) (r ro bo : Nat) (g1 : Bool) (A1 : Option Addr) (n1 c1 : Nat) (xs1 : List Nat) (PS : List Int) (v : Value) (wx : World) : Prop :=
 ∃ (L : List IV) (v' : Value), v = v' /\ PS.length <= 10000 /\ zF3 wx r v' L PS /\ Ba wx bo g1 A1 n1 c1 xs1 /\ Rb wx ro RVal.nil /\ Below r w0 wx /\ ∀ k, v'.ownBlock = some k -> k ≠ bo /\ k ≠ ro
theorem rpos_run (p q : RVal) (w : World) (ha : p.In w) (hb : q.In w) (n0 d0 m0 f0 z zd er : Int) (PS : List Int) (ho : ov p.g p.xs = some n0 /\ ov p.gd p.ys = some d0 /\ ov q.g q.xs = some m0 /\ ov q.gd q.ys = some f0) (hi : Sta n0 d0 m0 f0 /\ Run n0 d0 m0 f0 PS /\ PoEnd PS z zd er) (hpp : n0 * f0 < 2 ^ 8192) :
 Calls Tryz.prog 25 #[.agg #[.bool p.g, .slice p.A p.n p.c, .bool p.gd, .slice p.Ad p.nd p.cd], .agg #[.bool q.g, .slice q.A q.n q.c, .bool q.gd, .slice q.Ad q.nd q.cd]] w (RetR z zd er w) := by
 have HO := hI ho
 have HI := hI hi
 have HPP := hI hpp
 clear ho hi hpp
 have Ia_0 := hI ha
 clear ha
 have Ib_0 := hI hb
 clear hb
 have B_0 : Hid (Below w.heap.size w w) := hI (Below.refl _ _)
 go_enter Tryz.func25, Tryz.ntmps25
 go_wp2_with fail
 generalize hW : World.alloc w _ = W1
 have hn := zA0 w (.cells #[.bool p.g, .slice p.A p.n p.c, .bool p.gd, .slice p.Ad p.nd p.cd] 26)
 rw [hW] at hn
 have hz : W1.heap.size = w.heap.size + 1 := by rw [<- hW]; simp
 have hx : Rb W1 w.heap.size p := by rw [<- hW]; exact Rb.new (q := p) Ia_0.out
 have Ib_1 := hI (Ib_0.out.on hn)
 have B_2 := hI (zA B_0.out B_0.out.size hn)
 generalize hr : w.heap.size = r at *
 have HRr := hI hr
 clear hr
 have Xa_3 : Hid (Rb W1 r p) := hI hx
 have HT3 := hz
 clear hn hx hz hW Ib_0 B_0 Ia_0
 generalize hW : World.alloc W1 _ = W4
 have hn := zA0 W1 (.cells #[.bool q.g, .slice q.A q.n q.c, .bool q.gd, .slice q.Ad q.nd q.cd] 26)
 rw [hW] at hn
 have hz : W4.heap.size = W1.heap.size + 1 := by rw [<- hW]; simp
 have hx : Rb W4 W1.heap.size q := by rw [<- hW]; exact Rb.new (q := q) Ib_1.out
 have hlt : r < W1.heap.size := Xa_3.out.lt
 have B_4 := hI (bch B_2.out HRr.out hn)
 have Xa_5 := hI (Xa_3.out.on hn)
 rw [HT3] at hx hz hlt
 have Xb_6 : Hid (Rb W4 (r + 1) q) := hI hx
 have HT6 := hz
 clear hn hx hz hW hlt B_2 Xa_3 Ib_1
 generalize hW : World.alloc W4 _ = W7
 have hn := zA0 W4 (.cells #[.bool false, .slice none 0 0, .bool false, .slice none 0 0] 26)
 rw [hW] at hn
 have hx : Rb W7 W4.heap.size RVal.nil := by rw [<- hW]; exact Rb.new (q := RVal.nil) (RVal.nil_in W4)
 have hlt : (r + 1) < W4.heap.size := Xb_6.out.lt
 have B_7 := hI (bch B_4.out HRr.out hn)
 have Xa_8 := hI (Xa_5.out.on hn)
 have Xb_9 := hI (Xb_6.out.on hn)
 rw [HT6] at hx hlt
 have Xo_10 : Hid (Rb W7 (r + 1 + 1) RVal.nil) := hI hx
 clear hn hx hW hlt B_4 Xa_5 Xb_6
 clear HT3 HT6
 generalize hrb : r + 1 = rb at *
 generalize hro : rb + 1 = ro at *
 have OO := hI (show r < rb /\ rb < ro by omega)
 clear hrb hro
 go_cut [6, 7, 8, 9] (fun s6 s7 s8 s9 wx => PosM w r ro p q s6 s7 s8 s9 wx)
 case first =>
  obtain ⟨ka0, ka1, ka2, ka3⟩ := Xa_8.out.cs
  obtain ⟨kb0, kb1, kb2, kb3⟩ := Xb_9.out.cs
  have la := Xa_8.out.lt
  have lb := Xb_9.out.lt
  have lo := Xo_10.out.lt
  have hC : ∀ (i j : Nat) (w' : World), i <= j -> (i = 0 -> (w'.cell? ⟨r, 0, none⟩ = some (.bool p.g) /\ w'.cell? ⟨r, 1, none⟩ = some (.slice p.A p.n p.c) /\ w'.cell? ⟨r, 2, none⟩ = some (.bool p.gd) /\ w'.cell? ⟨r, 3, none⟩ = some (.slice p.Ad p.nd p.cd) /\ w'.cell? ⟨rb, 0, none⟩ = some (.bool q.g) /\ w'.cell? ⟨rb, 1, none⟩ = some (.slice q.A q.n q.c) /\ w'.cell? ⟨rb, 2, none⟩ = some (.bool q.gd) /\ w'.cell? ⟨rb, 3, none⟩ = some (.slice q.Ad q.nd q.cd))) -> (j = 0 -> (w'.cell? ⟨r, 0, none⟩ = some (.bool p.g) /\ w'.cell? ⟨r, 1, none⟩ = some (.slice p.A p.n p.c) /\ w'.cell? ⟨r, 2, none⟩ = some (.bool p.gd) /\ w'.cell? ⟨r, 3, none⟩ = some (.slice p.Ad p.nd p.cd) /\ w'.cell? ⟨rb, 0, none⟩ = some (.bool q.g) /\ w'.cell? ⟨rb, 1, none⟩ = some (.slice q.A q.n q.c) /\ w'.cell? ⟨rb, 2, none⟩ = some (.bool q.gd) /\ w'.cell? ⟨rb, 3, none⟩ = some (.slice q.Ad q.nd q.cd))) := fun i j w' hij h e => h (by omega)
  refine zH5 (fun j w' => (j = 0 -> (w'.cell? ⟨r, 0, none⟩ = some (.bool p.g) /\ w'.cell? ⟨r, 1, none⟩ = some (.slice p.A p.n p.c) /\ w'.cell? ⟨r, 2, none⟩ = some (.bool p.gd) /\ w'.cell? ⟨r, 3, none⟩ = some (.slice p.Ad p.nd p.cd) /\ w'.cell? ⟨rb, 0, none⟩ = some (.bool q.g) /\ w'.cell? ⟨rb, 1, none⟩ = some (.slice q.A q.n q.c) /\ w'.cell? ⟨rb, 2, none⟩ = some (.bool q.gd) /\ w'.cell? ⟨rb, 3, none⟩ = some (.slice q.Ad q.nd q.cd)))) (fun j => match j with | 15 => 1 | _ => 0) (by kernel_rfl) ?_
  have hS : W7.drew.cell? ⟨r, 0, none⟩ = some (.bool p.g) /\ W7.drew.cell? ⟨r, 1, none⟩ = some (.slice p.A p.n p.c) /\ W7.drew.cell? ⟨r, 2, none⟩ = some (.bool p.gd) /\ W7.drew.cell? ⟨r, 3, none⟩ = some (.slice p.Ad p.nd p.cd) /\ W7.drew.cell? ⟨rb, 0, none⟩ = some (.bool q.g) /\ W7.drew.cell? ⟨rb, 1, none⟩ = some (.slice q.A q.n q.c) /\ W7.drew.cell? ⟨rb, 2, none⟩ = some (.bool q.gd) /\ W7.drew.cell? ⟨rb, 3, none⟩ = some (.slice q.Ad q.nd q.cd) := ⟨ka0, ka1, ka2, ka3, kb0, kb1, kb2, kb3⟩
  clear ka0 ka1 ka2 ka3 kb0 kb1 kb2 kb3
  refine zA7 hC 0 (v := .pointer (some ⟨r, 0, none⟩)) rfl (by kernel_rfl) (by kernel_rfl) (by kernel_rfl) (by kernel_rfl) (fun _ _ _ h => h) (Or.inl ⟨by rfl, by (intro w' hSw; go_simp)⟩) (fun _ => hS) ?_
  try simp only [Act.put, List.setIfInBounds_toArray, List.set_cons_zero, List.set_cons_succ]
  refine zA7 hC 1 (v := .agg #[.bool p.g, .slice p.A p.n p.c]) rfl (by kernel_rfl) (by kernel_rfl) (by kernel_rfl) (by kernel_rfl) (fun _ _ _ h => h) (Or.inl ⟨by rfl, by (intro w' hSw; obtain ⟨x0, x1, x2, x3, y0, y1, y2, y3⟩ := hSw rfl; go_simp)⟩) (fun _ => hS) ?_
  try simp only [Act.put, List.setIfInBounds_toArray, List.set_cons_zero, List.set_cons_succ]
  refine zA7 hC 2 (v := .pointer (some ⟨r, 2, none⟩)) rfl (by kernel_rfl) (by kernel_rfl) (by kernel_rfl) (by kernel_rfl) (fun _ _ _ h => h) (Or.inl ⟨by rfl, by (intro w' hSw; go_simp)⟩) (fun _ => hS) ?_
  try simp only [Act.put, List.setIfInBounds_toArray, List.set_cons_zero, List.set_cons_succ]
  refine zA7 hC 3 (v := .agg #[.bool p.gd, .slice p.Ad p.nd p.cd]) rfl (by kernel_rfl) (by kernel_rfl) (by kernel_rfl) (by kernel_rfl) (fun _ _ _ h => h) (Or.inl ⟨by rfl, by (intro w' hSw; obtain ⟨x0, x1, x2, x3, y0, y1, y2, y3⟩ := hSw rfl; go_simp)⟩) (fun _ => hS) ?_
  try simp only [Act.put, List.setIfInBounds_toArray, List.set_cons_zero, List.set_cons_succ]
  refine zA7 hC 4 (v := .pointer (some ⟨rb, 0, none⟩)) rfl (by kernel_rfl) (by kernel_rfl) (by kernel_rfl) (by kernel_rfl) (fun _ _ _ h => h) (Or.inl ⟨by rfl, by (intro w' hSw; go_simp)⟩) (fun _ => hS) ?_
  try simp only [Act.put, List.setIfInBounds_toArray, List.set_cons_zero, List.set_cons_succ]
  refine zA7 hC 5 (v := .agg #[.bool q.g, .slice q.A q.n q.c]) rfl (by kernel_rfl) (by kernel_rfl) (by kernel_rfl) (by kernel_rfl) (fun _ _ _ h => h) (Or.inl ⟨by rfl, by (intro w' hSw; obtain ⟨x0, x1, x2, x3, y0, y1, y2, y3⟩ := hSw rfl; go_simp)⟩) (fun _ => hS) ?_
  try simp only [Act.put, List.setIfInBounds_toArray, List.set_cons_zero, List.set_cons_succ]
  refine zA7 hC 6 (v := .pointer (some ⟨rb, 2, none⟩)) rfl (by kernel_rfl) (by kernel_rfl) (by kernel_rfl) (by kernel_rfl) (fun _ _ _ h => h) (Or.inl ⟨by rfl, by (intro w' hSw; go_simp)⟩) (fun _ => hS) ?_
  try simp only [Act.put, List.setIfInBounds_toArray, List.set_cons_zero, List.set_cons_succ]
  refine zA7 hC 7 (v := .agg #[.bool q.gd, .slice q.Ad q.nd q.cd]) rfl (by kernel_rfl) (by kernel_rfl) (by kernel_rfl) (by kernel_rfl) (fun _ _ _ h => h) (Or.inl ⟨by rfl, by (intro w' hSw; obtain ⟨x0, x1, x2, x3, y0, y1, y2, y3⟩ := hSw rfl; go_simp)⟩) (fun _ => hS) ?_
  try simp only [Act.put, List.setIfInBounds_toArray, List.set_cons_zero, List.set_cons_succ]
  have hS1 : ∀ o0 : Obj, (W7.drew.alloc o0).cell? ⟨r, 0, none⟩ = some (.bool p.g) /\ (W7.drew.alloc o0).cell? ⟨r, 1, none⟩ = some (.slice p.A p.n p.c) /\ (W7.drew.alloc o0).cell? ⟨r, 2, none⟩ = some (.bool p.gd) /\ (W7.drew.alloc o0).cell? ⟨r, 3, none⟩ = some (.slice p.Ad p.nd p.cd) /\ (W7.drew.alloc o0).cell? ⟨rb, 0, none⟩ = some (.bool q.g) /\ (W7.drew.alloc o0).cell? ⟨rb, 1, none⟩ = some (.slice q.A q.n q.c) /\ (W7.drew.alloc o0).cell? ⟨rb, 2, none⟩ = some (.bool q.gd) /\ (W7.drew.alloc o0).cell? ⟨rb, 3, none⟩ = some (.slice q.Ad q.nd q.cd) := fun o0 => ⟨(World.cell?_alloc_lt _ _ _ (by simp; omega)).trans (hS.1), (World.cell?_alloc_lt _ _ _ (by simp; omega)).trans (hS.2.1), (World.cell?_alloc_lt _ _ _ (by simp; omega)).trans (hS.2.2.1), (World.cell?_alloc_lt _ _ _ (by simp; omega)).trans (hS.2.2.2.1), (World.cell?_alloc_lt _ _ _ (by simp; omega)).trans (hS.2.2.2.2.1), (World.cell?_alloc_lt _ _ _ (by simp; omega)).trans (hS.2.2.2.2.2.1), (World.cell?_alloc_lt _ _ _ (by simp; omega)).trans (hS.2.2.2.2.2.2.1), (World.cell?_alloc_lt _ _ _ (by simp; omega)).trans (hS.2.2.2.2.2.2.2)⟩
  have hS2 : ∀ o0 o1 : Obj, ((W7.drew.alloc o0).alloc o1).cell? ⟨r, 0, none⟩ = some (.bool p.g) /\ ((W7.drew.alloc o0).alloc o1).cell? ⟨r, 1, none⟩ = some (.slice p.A p.n p.c) /\ ((W7.drew.alloc o0).alloc o1).cell? ⟨r, 2, none⟩ = some (.bool p.gd) /\ ((W7.drew.alloc o0).alloc o1).cell? ⟨r, 3, none⟩ = some (.slice p.Ad p.nd p.cd) /\ ((W7.drew.alloc o0).alloc o1).cell? ⟨rb, 0, none⟩ = some (.bool q.g) /\ ((W7.drew.alloc o0).alloc o1).cell? ⟨rb, 1, none⟩ = some (.slice q.A q.n q.c) /\ ((W7.drew.alloc o0).alloc o1).cell? ⟨rb, 2, none⟩ = some (.bool q.gd) /\ ((W7.drew.alloc o0).alloc o1).cell? ⟨rb, 3, none⟩ = some (.slice q.Ad q.nd q.cd) := fun o0 o1 => ⟨(World.cell?_alloc_lt _ _ _ (by simp; omega)).trans ((World.cell?_alloc_lt _ _ _ (by simp; omega)).trans (hS.1)), (World.cell?_alloc_lt _ _ _ (by simp; omega)).trans ((World.cell?_alloc_lt _ _ _ (by simp; omega)).trans (hS.2.1)), (World.cell?_alloc_lt _ _ _ (by simp; omega)).trans ((World.cell?_alloc_lt _ _ _ (by simp; omega)).trans (hS.2.2.1)), (World.cell?_alloc_lt _ _ _ (by simp; omega)).trans ((World.cell?_alloc_lt _ _ _ (by simp; omega)).trans (hS.2.2.2.1)), (World.cell?_alloc_lt _ _ _ (by simp; omega)).trans ((World.cell?_alloc_lt _ _ _ (by simp; omega)).trans (hS.2.2.2.2.1)), (World.cell?_alloc_lt _ _ _ (by simp; omega)).trans ((World.cell?_alloc_lt _ _ _ (by simp; omega)).trans (hS.2.2.2.2.2.1)), (World.cell?_alloc_lt _ _ _ (by simp; omega)).trans ((World.cell?_alloc_lt _ _ _ (by simp; omega)).trans (hS.2.2.2.2.2.2.1)), (World.cell?_alloc_lt _ _ _ (by simp; omega)).trans ((World.cell?_alloc_lt _ _ _ (by simp; omega)).trans (hS.2.2.2.2.2.2.2))⟩
  have hS3 : ∀ o0 o1 o2 : Obj, (((W7.drew.alloc o0).alloc o1).alloc o2).cell? ⟨r, 0, none⟩ = some (.bool p.g) /\ (((W7.drew.alloc o0).alloc o1).alloc o2).cell? ⟨r, 1, none⟩ = some (.slice p.A p.n p.c) /\ (((W7.drew.alloc o0).alloc o1).alloc o2).cell? ⟨r, 2, none⟩ = some (.bool p.gd) /\ (((W7.drew.alloc o0).alloc o1).alloc o2).cell? ⟨r, 3, none⟩ = some (.slice p.Ad p.nd p.cd) /\ (((W7.drew.alloc o0).alloc o1).alloc o2).cell? ⟨rb, 0, none⟩ = some (.bool q.g) /\ (((W7.drew.alloc o0).alloc o1).alloc o2).cell? ⟨rb, 1, none⟩ = some (.slice q.A q.n q.c) /\ (((W7.drew.alloc o0).alloc o1).alloc o2).cell? ⟨rb, 2, none⟩ = some (.bool q.gd) /\ (((W7.drew.alloc o0).alloc o1).alloc o2).cell? ⟨rb, 3, none⟩ = some (.slice q.Ad q.nd q.cd) := fun o0 o1 o2 => ⟨(World.cell?_alloc_lt _ _ _ (by simp; omega)).trans ((World.cell?_alloc_lt _ _ _ (by simp; omega)).trans ((World.cell?_alloc_lt _ _ _ (by simp; omega)).trans (hS.1))), (World.cell?_alloc_lt _ _ _ (by simp; omega)).trans ((World.cell?_alloc_lt _ _ _ (by simp; omega)).trans ((World.cell?_alloc_lt _ _ _ (by simp; omega)).trans (hS.2.1))), (World.cell?_alloc_lt _ _ _ (by simp; omega)).trans ((World.cell?_alloc_lt _ _ _ (by simp; omega)).trans ((World.cell?_alloc_lt _ _ _ (by simp; omega)).trans (hS.2.2.1))), (World.cell?_alloc_lt _ _ _ (by simp; omega)).trans ((World.cell?_alloc_lt _ _ _ (by simp; omega)).trans ((World.cell?_alloc_lt _ _ _ (by simp; omega)).trans (hS.2.2.2.1))), (World.cell?_alloc_lt _ _ _ (by simp; omega)).trans ((World.cell?_alloc_lt _ _ _ (by simp; omega)).trans ((World.cell?_alloc_lt _ _ _ (by simp; omega)).trans (hS.2.2.2.2.1))), (World.cell?_alloc_lt _ _ _ (by simp; omega)).trans ((World.cell?_alloc_lt _ _ _ (by simp; omega)).trans ((World.cell?_alloc_lt _ _ _ (by simp; omega)).trans (hS.2.2.2.2.2.1))), (World.cell?_alloc_lt _ _ _ (by simp; omega)).trans ((World.cell?_alloc_lt _ _ _ (by simp; omega)).trans ((World.cell?_alloc_lt _ _ _ (by simp; omega)).trans (hS.2.2.2.2.2.2.1))), (World.cell?_alloc_lt _ _ _ (by simp; omega)).trans ((World.cell?_alloc_lt _ _ _ (by simp; omega)).trans ((World.cell?_alloc_lt _ _ _ (by simp; omega)).trans (hS.2.2.2.2.2.2.2)))⟩
  have hS4 : ∀ o0 o1 o2 o3 : Obj, ((((W7.drew.alloc o0).alloc o1).alloc o2).alloc o3).cell? ⟨r, 0, none⟩ = some (.bool p.g) /\ ((((W7.drew.alloc o0).alloc o1).alloc o2).alloc o3).cell? ⟨r, 1, none⟩ = some (.slice p.A p.n p.c) /\ ((((W7.drew.alloc o0).alloc o1).alloc o2).alloc o3).cell? ⟨r, 2, none⟩ = some (.bool p.gd) /\ ((((W7.drew.alloc o0).alloc o1).alloc o2).alloc o3).cell? ⟨r, 3, none⟩ = some (.slice p.Ad p.nd p.cd) /\ ((((W7.drew.alloc o0).alloc o1).alloc o2).alloc o3).cell? ⟨rb, 0, none⟩ = some (.bool q.g) /\ ((((W7.drew.alloc o0).alloc o1).alloc o2).alloc o3).cell? ⟨rb, 1, none⟩ = some (.slice q.A q.n q.c) /\ ((((W7.drew.alloc o0).alloc o1).alloc o2).alloc o3).cell? ⟨rb, 2, none⟩ = some (.bool q.gd) /\ ((((W7.drew.alloc o0).alloc o1).alloc o2).alloc o3).cell? ⟨rb, 3, none⟩ = some (.slice q.Ad q.nd q.cd) := fun o0 o1 o2 o3 => ⟨(World.cell?_alloc_lt _ _ _ (by simp; omega)).trans ((World.cell?_alloc_lt _ _ _ (by simp; omega)).trans ((World.cell?_alloc_lt _ _ _ (by simp; omega)).trans ((World.cell?_alloc_lt _ _ _ (by simp; omega)).trans (hS.1)))), (World.cell?_alloc_lt _ _ _ (by simp; omega)).trans ((World.cell?_alloc_lt _ _ _ (by simp; omega)).trans ((World.cell?_alloc_lt _ _ _ (by simp; omega)).trans ((World.cell?_alloc_lt _ _ _ (by simp; omega)).trans (hS.2.1)))), (World.cell?_alloc_lt _ _ _ (by simp; omega)).trans ((World.cell?_alloc_lt _ _ _ (by simp; omega)).trans ((World.cell?_alloc_lt _ _ _ (by simp; omega)).trans ((World.cell?_alloc_lt _ _ _ (by simp; omega)).trans (hS.2.2.1)))), (World.cell?_alloc_lt _ _ _ (by simp; omega)).trans ((World.cell?_alloc_lt _ _ _ (by simp; omega)).trans ((World.cell?_alloc_lt _ _ _ (by simp; omega)).trans ((World.cell?_alloc_lt _ _ _ (by simp; omega)).trans (hS.2.2.2.1)))), (World.cell?_alloc_lt _ _ _ (by simp; omega)).trans ((World.cell?_alloc_lt _ _ _ (by simp; omega)).trans ((World.cell?_alloc_lt _ _ _ (by simp; omega)).trans ((World.cell?_alloc_lt _ _ _ (by simp; omega)).trans (hS.2.2.2.2.1)))), (World.cell?_alloc_lt _ _ _ (by simp; omega)).trans ((World.cell?_alloc_lt _ _ _ (by simp; omega)).trans ((World.cell?_alloc_lt _ _ _ (by simp; omega)).trans ((World.cell?_alloc_lt _ _ _ (by simp; omega)).trans (hS.2.2.2.2.2.1)))), (World.cell?_alloc_lt _ _ _ (by simp; omega)).trans ((World.cell?_alloc_lt _ _ _ (by simp; omega)).trans ((World.cell?_alloc_lt _ _ _ (by simp; omega)).trans ((World.cell?_alloc_lt _ _ _ (by simp; omega)).trans (hS.2.2.2.2.2.2.1)))), (World.cell?_alloc_lt _ _ _ (by simp; omega)).trans ((World.cell?_alloc_lt _ _ _ (by simp; omega)).trans ((World.cell?_alloc_lt _ _ _ (by simp; omega)).trans ((World.cell?_alloc_lt _ _ _ (by simp; omega)).trans (hS.2.2.2.2.2.2.2))))⟩
  refine zB6 [8, 9, 10, 11] (by kernel_rfl) (by decide) (mem4 ?_ ?_ ?_ ?_)
  all_goals
   refine ⟨_, rfl, fun KK hKK => ?_⟩
   go_simp
   refine hKK.out _ _ (fun _ => hS1 _) ?_
   clear hKK KK
   try simp only [Act.put, List.setIfInBounds_toArray, List.set_cons_zero, List.set_cons_succ]
  refine zB6 [9, 10, 11] (by kernel_rfl) (by decide) (mem3 ?_ ?_ ?_); rotate_left 3
  refine zB6 [8, 10, 11] (by kernel_rfl) (by decide) (mem3 ?_ ?_ ?_); rotate_left 3
  refine zB6 [8, 9, 11] (by kernel_rfl) (by decide) (mem3 ?_ ?_ ?_); rotate_left 3
  refine zB6 [8, 9, 10] (by kernel_rfl) (by decide) (mem3 ?_ ?_ ?_); rotate_left 3
  all_goals
   refine ⟨_, rfl, fun KK hKK => ?_⟩
   go_simp
   refine hKK.out _ _ (fun _ => hS2 _ _) ?_
   clear hKK KK
   try simp only [Act.put, List.setIfInBounds_toArray, List.set_cons_zero, List.set_cons_succ]
  refine zB6 [10, 11] (by kernel_rfl) (by decide) (mem2 ?_ ?_); rotate_left 2
  refine zB6 [9, 11] (by kernel_rfl) (by decide) (mem2 ?_ ?_); rotate_left 2
  refine zB6 [9, 10] (by kernel_rfl) (by decide) (mem2 ?_ ?_); rotate_left 2
  refine zB6 [10, 11] (by kernel_rfl) (by decide) (mem2 ?_ ?_); rotate_left 2
  refine zB6 [8, 11] (by kernel_rfl) (by decide) (mem2 ?_ ?_); rotate_left 2
  refine zB6 [8, 10] (by kernel_rfl) (by decide) (mem2 ?_ ?_); rotate_left 2
  refine zB6 [9, 11] (by kernel_rfl) (by decide) (mem2 ?_ ?_); rotate_left 2
  refine zB6 [8, 11] (by kernel_rfl) (by decide) (mem2 ?_ ?_); rotate_left 2
  refine zB6 [8, 9] (by kernel_rfl) (by decide) (mem2 ?_ ?_); rotate_left 2
  refine zB6 [9, 10] (by kernel_rfl) (by decide) (mem2 ?_ ?_); rotate_left 2
  refine zB6 [8, 10] (by kernel_rfl) (by decide) (mem2 ?_ ?_); rotate_left 2
  refine zB6 [8, 9] (by kernel_rfl) (by decide) (mem2 ?_ ?_); rotate_left 2
  all_goals
   refine ⟨_, rfl, fun KK hKK => ?_⟩
   go_simp
   refine hKK.out _ _ (fun _ => hS3 _ _ _) ?_
   clear hKK KK
   try simp only [Act.put, List.setIfInBounds_toArray, List.set_cons_zero, List.set_cons_succ]
  refine zB6 [11] (by kernel_rfl) (by decide) (mem1 ?_); rotate_left 1
  refine zB6 [10] (by kernel_rfl) (by decide) (mem1 ?_); rotate_left 1
  refine zB6 [11] (by kernel_rfl) (by decide) (mem1 ?_); rotate_left 1
  refine zB6 [9] (by kernel_rfl) (by decide) (mem1 ?_); rotate_left 1
  refine zB6 [10] (by kernel_rfl) (by decide) (mem1 ?_); rotate_left 1
  refine zB6 [9] (by kernel_rfl) (by decide) (mem1 ?_); rotate_left 1
  refine zB6 [11] (by kernel_rfl) (by decide) (mem1 ?_); rotate_left 1
  refine zB6 [10] (by kernel_rfl) (by decide) (mem1 ?_); rotate_left 1
  refine zB6 [11] (by kernel_rfl) (by decide) (mem1 ?_); rotate_left 1
  refine zB6 [8] (by kernel_rfl) (by decide) (mem1 ?_); rotate_left 1
  refine zB6 [10] (by kernel_rfl) (by decide) (mem1 ?_); rotate_left 1
  refine zB6 [8] (by kernel_rfl) (by decide) (mem1 ?_); rotate_left 1
  refine zB6 [11] (by kernel_rfl) (by decide) (mem1 ?_); rotate_left 1
  refine zB6 [9] (by kernel_rfl) (by decide) (mem1 ?_); rotate_left 1
  refine zB6 [11] (by kernel_rfl) (by decide) (mem1 ?_); rotate_left 1
  refine zB6 [8] (by kernel_rfl) (by decide) (mem1 ?_); rotate_left 1
  refine zB6 [9] (by kernel_rfl) (by decide) (mem1 ?_); rotate_left 1
  refine zB6 [8] (by kernel_rfl) (by decide) (mem1 ?_); rotate_left 1
  refine zB6 [10] (by kernel_rfl) (by decide) (mem1 ?_); rotate_left 1
  refine zB6 [9] (by kernel_rfl) (by decide) (mem1 ?_); rotate_left 1
  refine zB6 [10] (by kernel_rfl) (by decide) (mem1 ?_); rotate_left 1
  refine zB6 [8] (by kernel_rfl) (by decide) (mem1 ?_); rotate_left 1
  refine zB6 [9] (by kernel_rfl) (by decide) (mem1 ?_); rotate_left 1
  refine zB6 [8] (by kernel_rfl) (by decide) (mem1 ?_); rotate_left 1
  all_goals
   refine ⟨_, rfl, fun KK hKK => ?_⟩
   go_simp
   refine hKK.out _ _ (fun _ => hS4 _ _ _ _) ?_
   clear hKK KK
   try simp only [Act.put, List.setIfInBounds_toArray, List.set_cons_zero, List.set_cons_succ]
  all_goals
   refine zC9 12 (by kernel_rfl) rfl (fun KK hKK => ?_)
   go_simp
   refine hKK.out _ _ (fun _ => hS4 _ _ _ _) ?_
   clear hKK KK
   try simp only [Act.put, List.setIfInBounds_toArray, List.set_cons_zero, List.set_cons_succ]
   refine zC9 13 (by kernel_rfl) rfl (fun KK hKK => ?_)
   go_simp
   refine hKK.out _ _ (fun _ => hS4 _ _ _ _) ?_
   clear hKK KK
   try simp only [Act.put, List.setIfInBounds_toArray, List.set_cons_zero, List.set_cons_succ]
   refine zC9 14 (by kernel_rfl) rfl (fun KK hKK => ?_)
   go_simp
   refine hKK.out _ _ (fun _ => hS4 _ _ _ _) ?_
   clear hKK KK
   try simp only [Act.put, List.setIfInBounds_toArray, List.set_cons_zero, List.set_cons_succ]
   refine zC9 15 (by kernel_rfl) rfl (fun KK hKK => ?_)
   go_simp
   refine hKK.out _ _ (fun e => absurd e (by decide)) ?_
   clear hKK KK
   try simp only [Act.put, List.setIfInBounds_toArray, List.set_cons_zero, List.set_cons_succ]
   refine zJ3 (by kernel_rfl) ?_ _
   go_wp2_with fail
   go_meet
  . have k := zC6 W7 ⟨p.g, p.A, p.n, p.c, p.xs⟩ ⟨p.gd, p.Ad, p.nd, p.cd, p.ys⟩ ⟨q.g, q.A, q.n, q.c, q.xs⟩ ⟨q.gd, q.Ad, q.nd, q.cd, q.ys⟩ Xa_8.out.sl.1 Xa_8.out.sl.2 Xb_9.out.sl.1 Xb_9.out.sl.2 rfl
    exact ⟨_, _, _, _, rfl, rfl, rfl, rfl, by refine ⟨?_, ?_, ?_, ?_, ?_, ?_, ?_, ?_, ?_, ?_⟩ <;> omega, k.1.drewZ, k.2.1.drewZ, k.2.2.1.drewZ, k.2.2.2.1.drewZ, (Xo_10.out.on k.2.2.2.2).drew, (bch B_7.out HRr.out k.2.2.2.2).drew⟩
  . have k := zC6 W7 ⟨p.g, p.A, p.n, p.c, p.xs⟩ ⟨p.gd, p.Ad, p.nd, p.cd, p.ys⟩ ⟨q.gd, q.Ad, q.nd, q.cd, q.ys⟩ ⟨q.g, q.A, q.n, q.c, q.xs⟩ Xa_8.out.sl.1 Xa_8.out.sl.2 Xb_9.out.sl.2 Xb_9.out.sl.1 rfl
    exact ⟨_, _, _, _, rfl, rfl, rfl, rfl, by refine ⟨?_, ?_, ?_, ?_, ?_, ?_, ?_, ?_, ?_, ?_⟩ <;> omega, k.1.drewZ, k.2.1.drewZ, k.2.2.2.1.drewZ, k.2.2.1.drewZ, (Xo_10.out.on k.2.2.2.2).drew, (bch B_7.out HRr.out k.2.2.2.2).drew⟩
  . have k := zC6 W7 ⟨p.g, p.A, p.n, p.c, p.xs⟩ ⟨q.g, q.A, q.n, q.c, q.xs⟩ ⟨p.gd, p.Ad, p.nd, p.cd, p.ys⟩ ⟨q.gd, q.Ad, q.nd, q.cd, q.ys⟩ Xa_8.out.sl.1 Xb_9.out.sl.1 Xa_8.out.sl.2 Xb_9.out.sl.2 rfl
    exact ⟨_, _, _, _, rfl, rfl, rfl, rfl, by refine ⟨?_, ?_, ?_, ?_, ?_, ?_, ?_, ?_, ?_, ?_⟩ <;> omega, k.1.drewZ, k.2.2.1.drewZ, k.2.1.drewZ, k.2.2.2.1.drewZ, (Xo_10.out.on k.2.2.2.2).drew, (bch B_7.out HRr.out k.2.2.2.2).drew⟩
  . have k := zC6 W7 ⟨p.g, p.A, p.n, p.c, p.xs⟩ ⟨q.g, q.A, q.n, q.c, q.xs⟩ ⟨q.gd, q.Ad, q.nd, q.cd, q.ys⟩ ⟨p.gd, p.Ad, p.nd, p.cd, p.ys⟩ Xa_8.out.sl.1 Xb_9.out.sl.1 Xb_9.out.sl.2 Xa_8.out.sl.2 rfl
    exact ⟨_, _, _, _, rfl, rfl, rfl, rfl, by refine ⟨?_, ?_, ?_, ?_, ?_, ?_, ?_, ?_, ?_, ?_⟩ <;> omega, k.1.drewZ, k.2.2.2.1.drewZ, k.2.1.drewZ, k.2.2.1.drewZ, (Xo_10.out.on k.2.2.2.2).drew, (bch B_7.out HRr.out k.2.2.2.2).drew⟩
  . have k := zC6 W7 ⟨p.g, p.A, p.n, p.c, p.xs⟩ ⟨q.gd, q.Ad, q.nd, q.cd, q.ys⟩ ⟨p.gd, p.Ad, p.nd, p.cd, p.ys⟩ ⟨q.g, q.A, q.n, q.c, q.xs⟩ Xa_8.out.sl.1 Xb_9.out.sl.2 Xa_8.out.sl.2 Xb_9.out.sl.1 rfl
    exact ⟨_, _, _, _, rfl, rfl, rfl, rfl, by refine ⟨?_, ?_, ?_, ?_, ?_, ?_, ?_, ?_, ?_, ?_⟩ <;> omega, k.1.drewZ, k.2.2.1.drewZ, k.2.2.2.1.drewZ, k.2.1.drewZ, (Xo_10.out.on k.2.2.2.2).drew, (bch B_7.out HRr.out k.2.2.2.2).drew⟩
  . have k := zC6 W7 ⟨p.g, p.A, p.n, p.c, p.xs⟩ ⟨q.gd, q.Ad, q.nd, q.cd, q.ys⟩ ⟨q.g, q.A, q.n, q.c, q.xs⟩ ⟨p.gd, p.Ad, p.nd, p.cd, p.ys⟩ Xa_8.out.sl.1 Xb_9.out.sl.2 Xb_9.out.sl.1 Xa_8.out.sl.2 rfl
    exact ⟨_, _, _, _, rfl, rfl, rfl, rfl, by refine ⟨?_, ?_, ?_, ?_, ?_, ?_, ?_, ?_, ?_, ?_⟩ <;> omega, k.1.drewZ, k.2.2.2.1.drewZ, k.2.2.1.drewZ, k.2.1.drewZ, (Xo_10.out.on k.2.2.2.2).drew, (bch B_7.out HRr.out k.2.2.2.2).drew⟩
  . have k := zC6 W7 ⟨p.gd, p.Ad, p.nd, p.cd, p.ys⟩ ⟨p.g, p.A, p.n, p.c, p.xs⟩ ⟨q.g, q.A, q.n, q.c, q.xs⟩ ⟨q.gd, q.Ad, q.nd, q.cd, q.ys⟩ Xa_8.out.sl.2 Xa_8.out.sl.1 Xb_9.out.sl.1 Xb_9.out.sl.2 rfl
    exact ⟨_, _, _, _, rfl, rfl, rfl, rfl, by refine ⟨?_, ?_, ?_, ?_, ?_, ?_, ?_, ?_, ?_, ?_⟩ <;> omega, k.2.1.drewZ, k.1.drewZ, k.2.2.1.drewZ, k.2.2.2.1.drewZ, (Xo_10.out.on k.2.2.2.2).drew, (bch B_7.out HRr.out k.2.2.2.2).drew⟩
  . have k := zC6 W7 ⟨p.gd, p.Ad, p.nd, p.cd, p.ys⟩ ⟨p.g, p.A, p.n, p.c, p.xs⟩ ⟨q.gd, q.Ad, q.nd, q.cd, q.ys⟩ ⟨q.g, q.A, q.n, q.c, q.xs⟩ Xa_8.out.sl.2 Xa_8.out.sl.1 Xb_9.out.sl.2 Xb_9.out.sl.1 rfl
    exact ⟨_, _, _, _, rfl, rfl, rfl, rfl, by refine ⟨?_, ?_, ?_, ?_, ?_, ?_, ?_, ?_, ?_, ?_⟩ <;> omega, k.2.1.drewZ, k.1.drewZ, k.2.2.2.1.drewZ, k.2.2.1.drewZ, (Xo_10.out.on k.2.2.2.2).drew, (bch B_7.out HRr.out k.2.2.2.2).drew⟩
  . have k := zC6 W7 ⟨p.gd, p.Ad, p.nd, p.cd, p.ys⟩ ⟨q.g, q.A, q.n, q.c, q.xs⟩ ⟨p.g, p.A, p.n, p.c, p.xs⟩ ⟨q.gd, q.Ad, q.nd, q.cd, q.ys⟩ Xa_8.out.sl.2 Xb_9.out.sl.1 Xa_8.out.sl.1 Xb_9.out.sl.2 rfl
    exact ⟨_, _, _, _, rfl, rfl, rfl, rfl, by refine ⟨?_, ?_, ?_, ?_, ?_, ?_, ?_, ?_, ?_, ?_⟩ <;> omega, k.2.2.1.drewZ, k.1.drewZ, k.2.1.drewZ, k.2.2.2.1.drewZ, (Xo_10.out.on k.2.2.2.2).drew, (bch B_7.out HRr.out k.2.2.2.2).drew⟩
  . have k := zC6 W7 ⟨p.gd, p.Ad, p.nd, p.cd, p.ys⟩ ⟨q.g, q.A, q.n, q.c, q.xs⟩ ⟨q.gd, q.Ad, q.nd, q.cd, q.ys⟩ ⟨p.g, p.A, p.n, p.c, p.xs⟩ Xa_8.out.sl.2 Xb_9.out.sl.1 Xb_9.out.sl.2 Xa_8.out.sl.1 rfl
    exact ⟨_, _, _, _, rfl, rfl, rfl, rfl, by refine ⟨?_, ?_, ?_, ?_, ?_, ?_, ?_, ?_, ?_, ?_⟩ <;> omega, k.2.2.2.1.drewZ, k.1.drewZ, k.2.1.drewZ, k.2.2.1.drewZ, (Xo_10.out.on k.2.2.2.2).drew, (bch B_7.out HRr.out k.2.2.2.2).drew⟩
  . have k := zC6 W7 ⟨p.gd, p.Ad, p.nd, p.cd, p.ys⟩ ⟨q.gd, q.Ad, q.nd, q.cd, q.ys⟩ ⟨p.g, p.A, p.n, p.c, p.xs⟩ ⟨q.g, q.A, q.n, q.c, q.xs⟩ Xa_8.out.sl.2 Xb_9.out.sl.2 Xa_8.out.sl.1 Xb_9.out.sl.1 rfl
    exact ⟨_, _, _, _, rfl, rfl, rfl, rfl, by refine ⟨?_, ?_, ?_, ?_, ?_, ?_, ?_, ?_, ?_, ?_⟩ <;> omega, k.2.2.1.drewZ, k.1.drewZ, k.2.2.2.1.drewZ, k.2.1.drewZ, (Xo_10.out.on k.2.2.2.2).drew, (bch B_7.out HRr.out k.2.2.2.2).drew⟩
  . have k := zC6 W7 ⟨p.gd, p.Ad, p.nd, p.cd, p.ys⟩ ⟨q.gd, q.Ad, q.nd, q.cd, q.ys⟩ ⟨q.g, q.A, q.n, q.c, q.xs⟩ ⟨p.g, p.A, p.n, p.c, p.xs⟩ Xa_8.out.sl.2 Xb_9.out.sl.2 Xb_9.out.sl.1 Xa_8.out.sl.1 rfl
    exact ⟨_, _, _, _, rfl, rfl, rfl, rfl, by refine ⟨?_, ?_, ?_, ?_, ?_, ?_, ?_, ?_, ?_, ?_⟩ <;> omega, k.2.2.2.1.drewZ, k.1.drewZ, k.2.2.1.drewZ, k.2.1.drewZ, (Xo_10.out.on k.2.2.2.2).drew, (bch B_7.out HRr.out k.2.2.2.2).drew⟩
  . have k := zC6 W7 ⟨q.g, q.A, q.n, q.c, q.xs⟩ ⟨p.g, p.A, p.n, p.c, p.xs⟩ ⟨p.gd, p.Ad, p.nd, p.cd, p.ys⟩ ⟨q.gd, q.Ad, q.nd, q.cd, q.ys⟩ Xb_9.out.sl.1 Xa_8.out.sl.1 Xa_8.out.sl.2 Xb_9.out.sl.2 rfl
    exact ⟨_, _, _, _, rfl, rfl, rfl, rfl, by refine ⟨?_, ?_, ?_, ?_, ?_, ?_, ?_, ?_, ?_, ?_⟩ <;> omega, k.2.1.drewZ, k.2.2.1.drewZ, k.1.drewZ, k.2.2.2.1.drewZ, (Xo_10.out.on k.2.2.2.2).drew, (bch B_7.out HRr.out k.2.2.2.2).drew⟩
  . have k := zC6 W7 ⟨q.g, q.A, q.n, q.c, q.xs⟩ ⟨p.g, p.A, p.n, p.c, p.xs⟩ ⟨q.gd, q.Ad, q.nd, q.cd, q.ys⟩ ⟨p.gd, p.Ad, p.nd, p.cd, p.ys⟩ Xb_9.out.sl.1 Xa_8.out.sl.1 Xb_9.out.sl.2 Xa_8.out.sl.2 rfl
    exact ⟨_, _, _, _, rfl, rfl, rfl, rfl, by refine ⟨?_, ?_, ?_, ?_, ?_, ?_, ?_, ?_, ?_, ?_⟩ <;> omega, k.2.1.drewZ, k.2.2.2.1.drewZ, k.1.drewZ, k.2.2.1.drewZ, (Xo_10.out.on k.2.2.2.2).drew, (bch B_7.out HRr.out k.2.2.2.2).drew⟩
  . have k := zC6 W7 ⟨q.g, q.A, q.n, q.c, q.xs⟩ ⟨p.gd, p.Ad, p.nd, p.cd, p.ys⟩ ⟨p.g, p.A, p.n, p.c, p.xs⟩ ⟨q.gd, q.Ad, q.nd, q.cd, q.ys⟩ Xb_9.out.sl.1 Xa_8.out.sl.2 Xa_8.out.sl.1 Xb_9.out.sl.2 rfl
    exact ⟨_, _, _, _, rfl, rfl, rfl, rfl, by refine ⟨?_, ?_, ?_, ?_, ?_, ?_, ?_, ?_, ?_, ?_⟩ <;> omega, k.2.2.1.drewZ, k.2.1.drewZ, k.1.drewZ, k.2.2.2.1.drewZ, (Xo_10.out.on k.2.2.2.2).drew, (bch B_7.out HRr.out k.2.2.2.2).drew⟩
  . have k := zC6 W7 ⟨q.g, q.A, q.n, q.c, q.xs⟩ ⟨p.gd, p.Ad, p.nd, p.cd, p.ys⟩ ⟨q.gd, q.Ad, q.nd, q.cd, q.ys⟩ ⟨p.g, p.A, p.n, p.c, p.xs⟩ Xb_9.out.sl.1 Xa_8.out.sl.2 Xb_9.out.sl.2 Xa_8.out.sl.1 rfl
    exact ⟨_, _, _, _, rfl, rfl, rfl, rfl, by refine ⟨?_, ?_, ?_, ?_, ?_, ?_, ?_, ?_, ?_, ?_⟩ <;> omega, k.2.2.2.1.drewZ, k.2.1.drewZ, k.1.drewZ, k.2.2.1.drewZ, (Xo_10.out.on k.2.2.2.2).drew, (bch B_7.out HRr.out k.2.2.2.2).drew⟩
  . have k := zC6 W7 ⟨q.g, q.A, q.n, q.c, q.xs⟩ ⟨q.gd, q.Ad, q.nd, q.cd, q.ys⟩ ⟨p.g, p.A, p.n, p.c, p.xs⟩ ⟨p.gd, p.Ad, p.nd, p.cd, p.ys⟩ Xb_9.out.sl.1 Xb_9.out.sl.2 Xa_8.out.sl.1 Xa_8.out.sl.2 rfl
    exact ⟨_, _, _, _, rfl, rfl, rfl, rfl, by refine ⟨?_, ?_, ?_, ?_, ?_, ?_, ?_, ?_, ?_, ?_⟩ <;> omega, k.2.2.1.drewZ, k.2.2.2.1.drewZ, k.1.drewZ, k.2.1.drewZ, (Xo_10.out.on k.2.2.2.2).drew, (bch B_7.out HRr.out k.2.2.2.2).drew⟩
  . have k := zC6 W7 ⟨q.g, q.A, q.n, q.c, q.xs⟩ ⟨q.gd, q.Ad, q.nd, q.cd, q.ys⟩ ⟨p.gd, p.Ad, p.nd, p.cd, p.ys⟩ ⟨p.g, p.A, p.n, p.c, p.xs⟩ Xb_9.out.sl.1 Xb_9.out.sl.2 Xa_8.out.sl.2 Xa_8.out.sl.1 rfl
    exact ⟨_, _, _, _, rfl, rfl, rfl, rfl, by refine ⟨?_, ?_, ?_, ?_, ?_, ?_, ?_, ?_, ?_, ?_⟩ <;> omega, k.2.2.2.1.drewZ, k.2.2.1.drewZ, k.1.drewZ, k.2.1.drewZ, (Xo_10.out.on k.2.2.2.2).drew, (bch B_7.out HRr.out k.2.2.2.2).drew⟩
  . have k := zC6 W7 ⟨q.gd, q.Ad, q.nd, q.cd, q.ys⟩ ⟨p.g, p.A, p.n, p.c, p.xs⟩ ⟨p.gd, p.Ad, p.nd, p.cd, p.ys⟩ ⟨q.g, q.A, q.n, q.c, q.xs⟩ Xb_9.out.sl.2 Xa_8.out.sl.1 Xa_8.out.sl.2 Xb_9.out.sl.1 rfl
    exact ⟨_, _, _, _, rfl, rfl, rfl, rfl, by refine ⟨?_, ?_, ?_, ?_, ?_, ?_, ?_, ?_, ?_, ?_⟩ <;> omega, k.2.1.drewZ, k.2.2.1.drewZ, k.2.2.2.1.drewZ, k.1.drewZ, (Xo_10.out.on k.2.2.2.2).drew, (bch B_7.out HRr.out k.2.2.2.2).drew⟩
  . have k := zC6 W7 ⟨q.gd, q.Ad, q.nd, q.cd, q.ys⟩ ⟨p.g, p.A, p.n, p.c, p.xs⟩ ⟨q.g, q.A, q.n, q.c, q.xs⟩ ⟨p.gd, p.Ad, p.nd, p.cd, p.ys⟩ Xb_9.out.sl.2 Xa_8.out.sl.1 Xb_9.out.sl.1 Xa_8.out.sl.2 rfl
    exact ⟨_, _, _, _, rfl, rfl, rfl, rfl, by refine ⟨?_, ?_, ?_, ?_, ?_, ?_, ?_, ?_, ?_, ?_⟩ <;> omega, k.2.1.drewZ, k.2.2.2.1.drewZ, k.2.2.1.drewZ, k.1.drewZ, (Xo_10.out.on k.2.2.2.2).drew, (bch B_7.out HRr.out k.2.2.2.2).drew⟩
  . have k := zC6 W7 ⟨q.gd, q.Ad, q.nd, q.cd, q.ys⟩ ⟨p.gd, p.Ad, p.nd, p.cd, p.ys⟩ ⟨p.g, p.A, p.n, p.c, p.xs⟩ ⟨q.g, q.A, q.n, q.c, q.xs⟩ Xb_9.out.sl.2 Xa_8.out.sl.2 Xa_8.out.sl.1 Xb_9.out.sl.1 rfl
    exact ⟨_, _, _, _, rfl, rfl, rfl, rfl, by refine ⟨?_, ?_, ?_, ?_, ?_, ?_, ?_, ?_, ?_, ?_⟩ <;> omega, k.2.2.1.drewZ, k.2.1.drewZ, k.2.2.2.1.drewZ, k.1.drewZ, (Xo_10.out.on k.2.2.2.2).drew, (bch B_7.out HRr.out k.2.2.2.2).drew⟩
  . have k := zC6 W7 ⟨q.gd, q.Ad, q.nd, q.cd, q.ys⟩ ⟨p.gd, p.Ad, p.nd, p.cd, p.ys⟩ ⟨q.g, q.A, q.n, q.c, q.xs⟩ ⟨p.g, p.A, p.n, p.c, p.xs⟩ Xb_9.out.sl.2 Xa_8.out.sl.2 Xb_9.out.sl.1 Xa_8.out.sl.1 rfl
    exact ⟨_, _, _, _, rfl, rfl, rfl, rfl, by refine ⟨?_, ?_, ?_, ?_, ?_, ?_, ?_, ?_, ?_, ?_⟩ <;> omega, k.2.2.2.1.drewZ, k.2.1.drewZ, k.2.2.1.drewZ, k.1.drewZ, (Xo_10.out.on k.2.2.2.2).drew, (bch B_7.out HRr.out k.2.2.2.2).drew⟩
  . have k := zC6 W7 ⟨q.gd, q.Ad, q.nd, q.cd, q.ys⟩ ⟨q.g, q.A, q.n, q.c, q.xs⟩ ⟨p.g, p.A, p.n, p.c, p.xs⟩ ⟨p.gd, p.Ad, p.nd, p.cd, p.ys⟩ Xb_9.out.sl.2 Xb_9.out.sl.1 Xa_8.out.sl.1 Xa_8.out.sl.2 rfl
    exact ⟨_, _, _, _, rfl, rfl, rfl, rfl, by refine ⟨?_, ?_, ?_, ?_, ?_, ?_, ?_, ?_, ?_, ?_⟩ <;> omega, k.2.2.1.drewZ, k.2.2.2.1.drewZ, k.2.1.drewZ, k.1.drewZ, (Xo_10.out.on k.2.2.2.2).drew, (bch B_7.out HRr.out k.2.2.2.2).drew⟩
  . have k := zC6 W7 ⟨q.gd, q.Ad, q.nd, q.cd, q.ys⟩ ⟨q.g, q.A, q.n, q.c, q.xs⟩ ⟨p.gd, p.Ad, p.nd, p.cd, p.ys⟩ ⟨p.g, p.A, p.n, p.c, p.xs⟩ Xb_9.out.sl.2 Xb_9.out.sl.1 Xa_8.out.sl.2 Xa_8.out.sl.1 rfl
    exact ⟨_, _, _, _, rfl, rfl, rfl, rfl, by refine ⟨?_, ?_, ?_, ?_, ?_, ?_, ?_, ?_, ?_, ?_⟩ <;> omega, k.2.2.2.1.drewZ, k.2.2.1.drewZ, k.2.1.drewZ, k.1.drewZ, (Xo_10.out.on k.2.2.2.2).drew, (bch B_7.out HRr.out k.2.2.2.2).drew⟩
 case rest =>
 obtain ⟨b0, b1, b2, b3, rfl, rfl, rfl, rfl, hne, h0, h1, h2, h3, ho, hb⟩ := hcut
 clear B_7 Xa_8 Xb_9 Xo_10
 have Zn_0 := hI h0
 have Zd_0 := hI h1
 have Zm_0 := hI h2
 have Zf_0 := hI h3
 have Xo_0 := hI ho
 have B_0 := hI hb
 have NE := hI (And.intro OO.out hne)
 clear h0 h1 h2 h3 ho hb hne OO
 obtain ⟨wd, rfl⟩ : ∃ u : World, u = wc := ⟨_, rfl⟩
 go_wp2_with fail
 refine (rof_z 1 wd (by decide) (by decide)).mono ?_
 rintro e w1 ⟨gi, Ai, ni, ci, xsi, rfl, hs, ho, hb⟩
 have Zn_1 := hI (Zn_0.out.on hb)
 have Zd_2 := hI (Zd_0.out.on hb)
 have Zm_3 := hI (Zm_0.out.on hb)
 have Zf_4 := hI (Zf_0.out.on hb)
 have Xo_5 := hI (Xo_0.out.on hb)
 have B_6 := hI (bch B_0.out HRr.out hb)
 have Ji_7 : Hid (Sl w1 w1.heap.size Ai ni ci xsi) := hI hs
 clear hb Zn_0 Zd_0 Zm_0 Zf_0 Xo_0 B_0 hs
 have Vi := hI ho
 clear ho
 go_upto_region 3 with fail
 have hq : b0 < w1.heap.size /\ b1 < w1.heap.size /\ b2 < w1.heap.size /\ b3 < w1.heap.size /\ ro < w1.heap.size := ⟨Zn_1.out.bx.lt, Zd_2.out.bx.lt, Zm_3.out.bx.lt, Zf_4.out.bx.lt, Xo_5.out.lt⟩
 generalize hW : World.alloc w1 _ = W8
 have hn := zA0 w1 (.cells #[.bool gi, .slice Ai ni ci] 24)
 rw [hW] at hn
 have hx : Ba W8 w1.heap.size gi Ai ni ci xsi := by rw [<- hW]; exact ⟨Bx.new w1 _ _ _ _, Ji_7.out.on (zA0 _ _)⟩
 have Zn_8 := hI (Zn_1.out.on hn)
 have Zd_9 := hI (Zd_2.out.on hn)
 have Zm_10 := hI (Zm_3.out.on hn)
 have Zf_11 := hI (Zf_4.out.on hn)
 have Xo_12 := hI (Xo_5.out.on hn)
 have B_13 := hI (bch B_6.out HRr.out hn)
 generalize hbb : w1.heap.size = b11 at *
 clear hbb
 have Zi_14 : Hid (Ba W8 b11 gi Ai ni ci xsi) := hI hx
 clear hn hx hW Zn_1 Zd_2 Zm_3 Zf_4 Xo_5 B_6 Ji_7
 have NF := hI hq
 clear hq
 have PN := hI (zF3.nil W8 r)
 have HX0 : Hid (PosW w r ro b11 b0 b1 b2 b3 (n0 * f0) gi Ai ni ci xsi PS n0 d0 m0 f0 p q (.slice none 0 0) [] [] W8) := hI ⟨Zn_8.out, Zd_9.out, Zm_10.out, Zf_11.out, Zi_14.out, Xo_12.out, B_13.out, HO.out.1, HO.out.2.1, HO.out.2.2.1, HO.out.2.2.2, PN.out, (fun k hk => by cases hk), HI.out.1, ⟨by rw [show ([] : List Int).length = 0 from rfl, Int.pow_zero, Int.mul_one]; have := Int.mul_nonneg HI.out.1.n0 HI.out.1.f0; omega, Or.inl ⟨rfl, Int.le_refl _⟩, Nat.zero_le _⟩, ⟨PS, HI.out.2.1, rfl⟩⟩
 clear PN Zn_8 Zd_9 Zm_10 Zf_11 Xo_12 B_13 Zi_14
 go_upto_block 0 with fail
 go_cut [11] (fun s11 wx => PosE w r ro b11 gi Ai ni ci xsi PS s11 wx)
 case first =>
  go_wp2_with fail
  go_loopg [11] (d0 + f0).toNat (fun gg s11 wr => ∃ (n d m f : Int) (qa qb : RVal) (L : List IV) (ps : List Int) (v : Value), s11 = v /\ (d + f).toNat = gg /\ Hid (PosW w r ro b11 b0 b1 b2 b3 (n0 * f0) gi Ai ni ci xsi PS n d m f qa qb v L ps wr))
  case atStart => exact ⟨n0, d0, m0, f0, p, q, [], [], _, rfl, rfl, HX0⟩
  case round =>
   obtain ⟨n, d, m, f, qa, qb, L, ps, v, hv, hk, HX⟩ := hrel
   replace hv := hv.symm
   subst hv
   clear HX0
   have HK := hI hk
   clear hk
   have Zn_0 := hI HX.out.z0
   have Zd_0 := hI HX.out.z1
   have Zm_0 := hI HX.out.z2
   have Zf_0 := hI HX.out.z3
   have Zi_0 := hI HX.out.zo
   have Xo_0 := hI HX.out.xo
   have B_0 := hI HX.out.bel
   have P_0 := hI HX.out.pt
   have Vn := hI HX.out.o1
   have Vd := hI HX.out.o2
   have Vm := hI HX.out.o3
   have Vf := hI HX.out.o4
   have NP := hI HX.out.np
   have ST := hI HX.out.st
   have FE := hI HX.out.few
   have RN := hI HX.out.run
   clear HX
   have Rn : Hid (r <= b0) := hI (by have a := NE.out.1; have b := NE.out.2.1; have c := NE.out.2.2.1; have d := NE.out.2.2.2.1; have e := NE.out.2.2.2.2.1; have g := NF.out; omega)
   have Rd : Hid (r <= b1) := hI (by have a := NE.out.1; have b := NE.out.2.1; have c := NE.out.2.2.1; have d := NE.out.2.2.2.1; have e := NE.out.2.2.2.2.1; have g := NF.out; omega)
   have Rm : Hid (r <= b2) := hI (by have a := NE.out.1; have b := NE.out.2.1; have c := NE.out.2.2.1; have d := NE.out.2.2.2.1; have e := NE.out.2.2.2.2.1; have g := NF.out; omega)
   have Rf : Hid (r <= b3) := hI (by have a := NE.out.1; have b := NE.out.2.1; have c := NE.out.2.2.1; have d := NE.out.2.2.2.1; have e := NE.out.2.2.2.2.1; have g := NF.out; omega)
   have Ri : Hid (r <= b11) := hI (by have a := NE.out.1; have b := NE.out.2.1; have c := NE.out.2.2.1; have d := NE.out.2.2.2.1; have e := NE.out.2.2.2.2.1; have g := NF.out; omega)
   have Ro : Hid (r <= ro) := hI (by have a := NE.out.1; have b := NE.out.2.1; have c := NE.out.2.2.1; have d := NE.out.2.2.2.1; have e := NE.out.2.2.2.2.1; have g := NF.out; omega)
   have Dnd : Hid (b0 ≠ b1) := hI (NE.out.2.2.2.2.2.1)
   have Ddn : Hid (b1 ≠ b0) := hI Dnd.out.symm
   have Dnm : Hid (b0 ≠ b2) := hI (NE.out.2.2.2.2.2.2.1)
   have Dmn : Hid (b2 ≠ b0) := hI Dnm.out.symm
   have Dnf : Hid (b0 ≠ b3) := hI (NE.out.2.2.2.2.2.2.2.1)
   have Dfn : Hid (b3 ≠ b0) := hI Dnf.out.symm
   have Dni : Hid (b0 ≠ b11) := hI (Nat.ne_of_lt NF.out.1)
   have Din : Hid (b11 ≠ b0) := hI Dni.out.symm
   have Dno : Hid (b0 ≠ ro) := hI ((Nat.ne_of_lt NE.out.2.1).symm)
   have Don : Hid (ro ≠ b0) := hI Dno.out.symm
   have Ddm : Hid (b1 ≠ b2) := hI (NE.out.2.2.2.2.2.2.2.2.1)
   have Dmd : Hid (b2 ≠ b1) := hI Ddm.out.symm
   have Ddf : Hid (b1 ≠ b3) := hI (NE.out.2.2.2.2.2.2.2.2.2.1)
   have Dfd : Hid (b3 ≠ b1) := hI Ddf.out.symm
   have Ddi : Hid (b1 ≠ b11) := hI (Nat.ne_of_lt NF.out.2.1)
   have Did : Hid (b11 ≠ b1) := hI Ddi.out.symm
   have Ddo : Hid (b1 ≠ ro) := hI ((Nat.ne_of_lt NE.out.2.2.1).symm)
   have Dod : Hid (ro ≠ b1) := hI Ddo.out.symm
   have Dmf : Hid (b2 ≠ b3) := hI (NE.out.2.2.2.2.2.2.2.2.2.2)
   have Dfm : Hid (b3 ≠ b2) := hI Dmf.out.symm
   have Dmi : Hid (b2 ≠ b11) := hI (Nat.ne_of_lt NF.out.2.2.1)
   have Dim : Hid (b11 ≠ b2) := hI Dmi.out.symm
   have Dmo : Hid (b2 ≠ ro) := hI ((Nat.ne_of_lt NE.out.2.2.2.1).symm)
   have Dom : Hid (ro ≠ b2) := hI Dmo.out.symm
   have Dfi : Hid (b3 ≠ b11) := hI (Nat.ne_of_lt NF.out.2.2.2.1)
   have Dif : Hid (b11 ≠ b3) := hI Dfi.out.symm
   have Dfo : Hid (b3 ≠ ro) := hI ((Nat.ne_of_lt NE.out.2.2.2.2.1).symm)
   have Dof : Hid (ro ≠ b3) := hI Dfo.out.symm
   have Dio : Hid (b11 ≠ ro) := hI ((Nat.ne_of_lt NF.out.2.2.2.2).symm)
   have Doi : Hid (ro ≠ b11) := hI Dio.out.symm
   have BD := hI (And.intro (zE7 Zn_0.out.sl.ok Vn.out) (And.intro (zE7 Zm_0.out.sl.ok Vm.out) (zE7 Zf_0.out.sl.ok Vf.out)))
   have Q0 := hI (And.intro ST.out.q0 (And.intro ST.out.eq ST.out.dpos))
   obtain ⟨qt, hqt⟩ : ∃ u, n / d = u := ⟨_, rfl⟩
   obtain ⟨rs, hrs⟩ : ∃ u, n % d = u := ⟨_, rfl⟩
   have HQ := hI (And.intro hqt hrs)
   have Q1 : Hid (0 <= qt /\ 0 <= rs /\ rs < d /\ 0 < m - qt * f /\ qt.natAbs < BIG) := hI (by have a := Q0.out; rw [hqt, hrs] at a; exact ⟨a.1, a.2.1.2.1, a.2.1.2.2, a.2.2, by rw [<- hqt]; exact Nat.lt_of_le_of_lt (Int.natAbs_ediv_le_natAbs _ _) BD.out.1⟩)
   clear Q0 hqt hrs
   have D1 := hI (show d ≠ 0 /\ fq n d = qt /\ fr n d = rs from ⟨by have := ST.out.d0; omega, by rw [(fq_mod ST.out.d0).1, HQ.out.1], by rw [(fq_mod ST.out.d0).2, HQ.out.2]⟩)
   obtain ⟨kn0, kn1⟩ := Zn_0.out.cs
   have ln := Zn_0.out.bx.lt
   obtain ⟨kd0, kd1⟩ := Zd_0.out.cs
   have ld := Zd_0.out.bx.lt
   go_wp2_with fail
   refine (zT0 Zn_0.out.sl Zd_0.out.sl Vn.out Vd.out D1.out.1 qt rs D1.out.2.1 D1.out.2.2 Q1.out.2.2.2.2).mono ?_
   clear kn0 kn1 ln kd0 kd1 ld
   rintro e w1 ⟨gx, Ax, nx, cx, xsx, gy, Ay, ny, cy, xsy, rfl, hs, ho, hs2, ho2, hb⟩
   have Zn_1 := hI (Zn_0.out.on hb)
   have Zd_2 := hI (Zd_0.out.on hb)
   have Zm_3 := hI (Zm_0.out.on hb)
   have Zf_4 := hI (Zf_0.out.on hb)
   have Zi_5 := hI (Zi_0.out.on hb)
   have Xo_6 := hI (Xo_0.out.on hb)
   have B_7 := hI (bch B_0.out HRr.out hb)
   have P_8 := hI (P_0.out.on hb)
   have Jx_9 : Hid (Sl w1 w1.heap.size Ax nx cx xsx) := hI hs
   have Jy_10 : Hid (Sl w1 w1.heap.size Ay ny cy xsy) := hI hs2
   clear hb Zn_0 Zd_0 Zm_0 Zf_0 Zi_0 Xo_0 B_0 P_0 hs hs2
   have Vx := hI ho
   have Vy := hI ho2
   clear ho ho2
   go_upto_region 5 with fail
   have hq : ∀ j, v.ownBlock = some j -> j < w1.heap.size := P_8.out.lt
   have hq2 : b0 < w1.heap.size /\ b1 < w1.heap.size /\ b2 < w1.heap.size /\ b3 < w1.heap.size := ⟨Zn_1.out.bx.lt, Zd_2.out.bx.lt, Zm_3.out.bx.lt, Zf_4.out.bx.lt⟩
   generalize hW : World.alloc w1 _ = W11
   have hn := zA0 w1 (.cells #[.bool gx, .slice Ax nx cx] 24)
   rw [hW] at hn
   have hz : W11.heap.size = w1.heap.size + 1 := by rw [<- hW]; simp
   have hx : Ba W11 w1.heap.size gx Ax nx cx xsx := by rw [<- hW]; exact ⟨Bx.new w1 _ _ _ _, Jx_9.out.on (zA0 _ _)⟩
   have hlt : ro < w1.heap.size := Xo_6.out.lt
   have Zn_11 := hI (Zn_1.out.on hn)
   have Zd_12 := hI (Zd_2.out.on hn)
   have Zm_13 := hI (Zm_3.out.on hn)
   have Zf_14 := hI (Zf_4.out.on hn)
   have Zi_15 := hI (Zi_5.out.on hn)
   have Xo_16 := hI (Xo_6.out.on hn)
   have B_17 := hI (bch B_7.out HRr.out hn)
   have P_18 := hI (P_8.out.on hn)
   have Jy_19 := hI (Jy_10.out.on hn)
   generalize hbb : w1.heap.size = b21 at *
   clear hbb
   have Zx_20 : Hid (Ba W11 b21 gx Ax nx cx xsx) := hI hx
   have HT20 := hz
   have O20 := hI hlt
   clear hn hx hz hW hlt Zn_1 Zd_2 Zm_3 Zf_4 Zi_5 Xo_6 B_7 P_8 Jy_10 Jx_9
   have Nx : Hid (∀ j, v.ownBlock = some j -> j ≠ b21) := hI (fun j hj => Nat.ne_of_lt (hq j hj))
   have Gx := hI hq2
   clear hq hq2
   have hq : ∀ j, v.ownBlock = some j -> j < W11.heap.size := P_18.out.lt
   have hq2 : b0 < W11.heap.size /\ b1 < W11.heap.size /\ b2 < W11.heap.size /\ b3 < W11.heap.size := ⟨Zn_11.out.bx.lt, Zd_12.out.bx.lt, Zm_13.out.bx.lt, Zf_14.out.bx.lt⟩
   generalize hW : World.alloc W11 _ = W21
   have hn := zA0 W11 (.cells #[.bool gy, .slice Ay ny cy] 24)
   rw [hW] at hn
   have hx : Ba W21 W11.heap.size gy Ay ny cy xsy := by rw [<- hW]; exact ⟨Bx.new W11 _ _ _ _, Jy_19.out.on (zA0 _ _)⟩
   have hlt : b21 < W11.heap.size := Zx_20.out.bx.lt
   have Zn_21 := hI (Zn_11.out.on hn)
   have Zd_22 := hI (Zd_12.out.on hn)
   have Zm_23 := hI (Zm_13.out.on hn)
   have Zf_24 := hI (Zf_14.out.on hn)
   have Zi_25 := hI (Zi_15.out.on hn)
   have Xo_26 := hI (Xo_16.out.on hn)
   have B_27 := hI (bch B_17.out HRr.out hn)
   have P_28 := hI (P_18.out.on hn)
   have Zx_29 := hI (Zx_20.out.on hn)
   rw [HT20] at hx hlt
   have Zy_30 : Hid (Ba W21 (b21 + 1) gy Ay ny cy xsy) := hI hx
   clear hn hx hW hlt Zn_11 Zd_12 Zm_13 Zf_14 Zi_15 Xo_16 B_17 P_18 Zx_20 Jy_19
   have Ny : Hid (∀ j, v.ownBlock = some j -> j ≠ (b21 + 1)) := hI (fun j hj => Nat.ne_of_lt (by have := hq j hj; omega))
   have Gy : Hid (b0 < (b21 + 1) /\ b1 < (b21 + 1) /\ b2 < (b21 + 1) /\ b3 < (b21 + 1)) := hI (by omega)
   clear hq hq2
   clear HT20
   by_cases big : (qt + 1).natAbs < BIG
   . by_cases fz : f = 0
     . have lt : (qt + 1) * f < m := by rw [fz, Int.mul_zero]; exact ST.out.m0
       have LT := hI lt
       clear lt
       have EA := hI (zB1 big)
       have HF2 := hI (show Hid ((qt + 1).natAbs < BIG) from hI big)
       clear big
       obtain ⟨kx0, kx1⟩ := Zx_29.out.cs
       have lx := Zx_29.out.bx.lt
       obtain ⟨ki0, ki1⟩ := Zi_25.out.cs
       have li := Zi_25.out.bx.lt
       go_wp2_with fail
       have C := radd_z Zx_29.out.sl Zi_25.out.sl Vx.out Vi.out
       rw [EA.out.1, EA.out.2] at C
       refine C.mono ?_
       clear C
       clear kx0 kx1 lx ki0 ki1 li
       rintro e w31 ⟨ge, Ae, ne, ce, xse, rfl, hs, ho, hb⟩
       have Zn_31 := hI (Zn_21.out.on hb)
       have Zd_32 := hI (Zd_22.out.on hb)
       have Zm_33 := hI (Zm_23.out.on hb)
       have Zf_34 := hI (Zf_24.out.on hb)
       have Zi_35 := hI (Zi_25.out.on hb)
       have Xo_36 := hI (Xo_26.out.on hb)
       have B_37 := hI (bch B_27.out HRr.out hb)
       have P_38 := hI (P_28.out.on hb)
       have Zx_39 := hI (Zx_29.out.on hb)
       have Zy_40 := hI (Zy_30.out.on hb)
       have Je_41 : Hid (Sl w31 w31.heap.size Ae ne ce xse) := hI hs
       clear hb Zn_21 Zd_22 Zm_23 Zf_24 Zi_25 Xo_26 B_27 P_28 Zx_29 Zy_30 hs
       have Ve := hI ho
       clear ho
       obtain ⟨kf0, kf1⟩ := (Zf_34.out.on (zA0 w31 (.cells #[.bool ge, .slice Ae ne ce] 24))).cs
       have lf := Zf_34.out.bx.lt
       go_upto_region 6 with fail
       clear kf0 kf1 lf
       have hq : ∀ j, v.ownBlock = some j -> j < w31.heap.size := P_38.out.lt
       have hq2 : b0 < w31.heap.size /\ b1 < w31.heap.size /\ b2 < w31.heap.size /\ b3 < w31.heap.size /\ (b21 + 1) < w31.heap.size := ⟨Zn_31.out.bx.lt, Zd_32.out.bx.lt, Zm_33.out.bx.lt, Zf_34.out.bx.lt, Zy_40.out.bx.lt⟩
       generalize hW : World.alloc w31 _ = W42
       have hn := zA0 w31 (.cells #[.bool ge, .slice Ae ne ce] 24)
       rw [hW] at hn
       have hx : Ba W42 w31.heap.size ge Ae ne ce xse := by rw [<- hW]; exact ⟨Bx.new w31 _ _ _ _, Je_41.out.on (zA0 _ _)⟩
       have hlt : (b21 + 1) < w31.heap.size := Zy_40.out.bx.lt
       have Zn_42 := hI (Zn_31.out.on hn)
       have Zd_43 := hI (Zd_32.out.on hn)
       have Zm_44 := hI (Zm_33.out.on hn)
       have Zf_45 := hI (Zf_34.out.on hn)
       have Zi_46 := hI (Zi_35.out.on hn)
       have Xo_47 := hI (Xo_36.out.on hn)
       have B_48 := hI (bch B_37.out HRr.out hn)
       have P_49 := hI (P_38.out.on hn)
       have Zx_50 := hI (Zx_39.out.on hn)
       have Zy_51 := hI (Zy_40.out.on hn)
       generalize hbb : w31.heap.size = b22 at *
       clear hbb
       have Ze_52 : Hid (Ba W42 b22 ge Ae ne ce xse) := hI hx
       have O52 := hI hlt
       clear hn hx hW hlt Zn_31 Zd_32 Zm_33 Zf_34 Zi_35 Xo_36 B_37 P_38 Zx_39 Zy_40 Je_41
       have Ne : Hid (∀ j, v.ownBlock = some j -> j ≠ b22) := hI (fun j hj => Nat.ne_of_lt (hq j hj))
       have Ge := hI hq2
       clear hq hq2
       obtain ⟨kf0, kf1⟩ := Zf_45.out.cs
       have lf := Zf_45.out.bx.lt
       go_wp2_with fail
       have HZ : Hid (decide (qb.nd = 0) = true) := hI (by rw [zG5 Zf_45.out.sl Vf.out]; exact decide_eq_true fz)
       have C := zB2 qb.gd qb.Ad qb.nd qb.cd W42
       rw [HZ.out] at C
       refine C.mono ?_
       clear C
       clear kf0 kf1 lf
       rintro e w53 ⟨rfl, hb⟩
       have Zn_53 := hI (Zn_42.out.on hb)
       have Zd_54 := hI (Zd_43.out.on hb)
       have Zm_55 := hI (Zm_44.out.on hb)
       have Zf_56 := hI (Zf_45.out.on hb)
       have Zi_57 := hI (Zi_46.out.on hb)
       have Xo_58 := hI (Xo_47.out.on hb)
       have B_59 := hI (bch B_48.out HRr.out hb)
       have P_60 := hI (P_49.out.on hb)
       have Zx_61 := hI (Zx_50.out.on hb)
       have Zy_62 := hI (Zy_51.out.on hb)
       have Ze_63 := hI (Ze_52.out.on hb)
       clear hb Zn_42 Zd_43 Zm_44 Zf_45 Zi_46 Xo_47 B_48 P_49 Zx_50 Zy_51 Ze_52
       clear fz
       obtain ⟨ke0, ke1⟩ := Ze_63.out.cs
       have le := Ze_63.out.bx.lt
       go_wp2_with (at_builtin; refine zT1 rfl _ _ rfl w53.heap.size ⟨ge, Ae, ne, ce, xse⟩ (qt + 1) (P_60.out.on (zA0 _ _)) rfl rfl (Bx.new _ _ _ _ _) ((Ze_63.out.sl).on (zA0 _ _)) Ve.out (by have := FE.out.k; omega) (by have := B_59.out.size; have := HRr.out; simp; omega) ?_; intro v9 w9 hP hg hob)
       clear ke0 ke1 le
       have hn := zA0 w53 (.cells #[.bool ge, .slice Ae ne ce] 24)
       have hP0 := P_60.out.on hn
       have Zn_64 : Hid (Ba w9 b0 qa.g qa.A qa.n qa.c qa.xs) := hI ((Zn_53.out.on hn).rowC hP0 hg (fun j hj => (NP.out j hj).1))
       have Zd_65 : Hid (Ba w9 b1 qa.gd qa.Ad qa.nd qa.cd qa.ys) := hI ((Zd_54.out.on hn).rowC hP0 hg (fun j hj => (NP.out j hj).2.1))
       have Zm_66 : Hid (Ba w9 b2 qb.g qb.A qb.n qb.c qb.xs) := hI ((Zm_55.out.on hn).rowC hP0 hg (fun j hj => (NP.out j hj).2.2.1))
       have Zf_67 : Hid (Ba w9 b3 qb.gd qb.Ad qb.nd qb.cd qb.ys) := hI ((Zf_56.out.on hn).rowC hP0 hg (fun j hj => (NP.out j hj).2.2.2.1))
       have Zi_68 : Hid (Ba w9 b11 gi Ai ni ci xsi) := hI ((Zi_57.out.on hn).rowC hP0 hg (fun j hj => (NP.out j hj).2.2.2.2.1))
       have Xo_69 : Hid (Rb w9 ro RVal.nil) := hI ((Xo_58.out.on hn).rowC hP0 hg (fun j hj => (NP.out j hj).2.2.2.2.2))
       have B_70 : Hid (Below r w w9) := hI (zU2 (bch B_59.out HRr.out hn) hP0 hg (Nat.le_refl _) (by have := B_59.out.size; have := HRr.out; simp; omega))
       have Zx_71 : Hid (Ba w9 b21 gx Ax nx cx xsx) := hI ((Zx_61.out.on hn).rowC hP0 hg (fun j hj => Nx.out j hj))
       have Zy_72 : Hid (Ba w9 (b21 + 1) gy Ay ny cy xsy) := hI ((Zy_62.out.on hn).rowC hP0 hg (fun j hj => Ny.out j hj))
       have Ze_73 : Hid (Ba w9 b22 ge Ae ne ce xse) := hI ((Ze_63.out.on hn).rowC hP0 hg (fun j hj => Ne.out j hj))
       have hsz : (w53.alloc (.cells #[.bool ge, .slice Ae ne ce] 24)).heap.size = w53.heap.size + 1 := by simp
       have NP9 : Hid (∀ j, v9.ownBlock = some j -> j ≠ b0 /\ j ≠ b1 /\ j ≠ b2 /\ j ≠ b3 /\ j ≠ b11 /\ j ≠ ro) := hI (by
        intro j hj
        rcases hob with e | e
        . rw [e] at hj; exact NP.out j hj
        . rw [e] at hj
          injection hj with hj
          have := Zn_53.out.bx.lt; have := Zd_54.out.bx.lt; have := Zm_55.out.bx.lt; have := Zf_56.out.bx.lt; have := Zi_57.out.bx.lt; have := Xo_58.out.lt;
          omega)
       have Mx : Hid (∀ j, v9.ownBlock = some j -> j ≠ b21) := hI (by
        intro j hj
        rcases hob with e | e
        . rw [e] at hj; exact Nx.out j hj
        . rw [e] at hj
          injection hj with hj
          have := Zx_61.out.bx.lt
          omega)
       have My : Hid (∀ j, v9.ownBlock = some j -> j ≠ (b21 + 1)) := hI (by
        intro j hj
        rcases hob with e | e
        . rw [e] at hj; exact Ny.out j hj
        . rw [e] at hj
          injection hj with hj
          have := Zy_62.out.bx.lt
          omega)
       have Me : Hid (∀ j, v9.ownBlock = some j -> j ≠ b22) := hI (by
        intro j hj
        rcases hob with e | e
        . rw [e] at hj; exact Ne.out j hj
        . rw [e] at hj
          injection hj with hj
          have := Ze_63.out.bx.lt
          omega)
       have P_9 := hI hP
       clear hP hg hob hn hP0 hsz NP P_60 Zn_53 Zd_54 Zm_55 Zf_56 Zi_57 Xo_58 B_59 Zx_61 Zy_62 Ze_63 Nx Ny Ne
       have NP := NP9
       clear NP9
       have Nx := Mx
       clear Mx
       have Ny := My
       clear My
       have Ne := Me
       clear Me
       go_wp2_with fail
       go_meet
       have EQ : PS = ps ++ [qt + 1] := by
        obtain ⟨rest, r1, r2⟩ := RN.out
        rw [r2, run_last r1 (by rw [HQ.out.1]; exact LT.out), HQ.out.1]
       exact ⟨_, _, rfl, by rw [EQ, List.length_append, List.length_singleton]; have := FE.out.k; omega, by rw [EQ]; exact P_9.out, Zi_68.out, Xo_69.out, B_70.out, fun j hj => (NP.out j hj).2.2.2.2⟩
     . by_cases lt : (qt + 1) * f < m
       . have LT := hI lt
         clear lt
         have EA := hI (zB1 big)
         have HF2 := hI (show Hid ((qt + 1).natAbs < BIG) from hI big)
         clear big
         obtain ⟨kx0, kx1⟩ := Zx_29.out.cs
         have lx := Zx_29.out.bx.lt
         obtain ⟨ki0, ki1⟩ := Zi_25.out.cs
         have li := Zi_25.out.bx.lt
         go_wp2_with fail
         have C := radd_z Zx_29.out.sl Zi_25.out.sl Vx.out Vi.out
         rw [EA.out.1, EA.out.2] at C
         refine C.mono ?_
         clear C
         clear kx0 kx1 lx ki0 ki1 li
         rintro e w31 ⟨ge, Ae, ne, ce, xse, rfl, hs, ho, hb⟩
         have Zn_31 := hI (Zn_21.out.on hb)
         have Zd_32 := hI (Zd_22.out.on hb)
         have Zm_33 := hI (Zm_23.out.on hb)
         have Zf_34 := hI (Zf_24.out.on hb)
         have Zi_35 := hI (Zi_25.out.on hb)
         have Xo_36 := hI (Xo_26.out.on hb)
         have B_37 := hI (bch B_27.out HRr.out hb)
         have P_38 := hI (P_28.out.on hb)
         have Zx_39 := hI (Zx_29.out.on hb)
         have Zy_40 := hI (Zy_30.out.on hb)
         have Je_41 : Hid (Sl w31 w31.heap.size Ae ne ce xse) := hI hs
         clear hb Zn_21 Zd_22 Zm_23 Zf_24 Zi_25 Xo_26 B_27 P_28 Zx_29 Zy_30 hs
         have Ve := hI ho
         clear ho
         obtain ⟨kf0, kf1⟩ := (Zf_34.out.on (zA0 w31 (.cells #[.bool ge, .slice Ae ne ce] 24))).cs
         have lf := Zf_34.out.bx.lt
         go_upto_region 6 with fail
         clear kf0 kf1 lf
         have hq : ∀ j, v.ownBlock = some j -> j < w31.heap.size := P_38.out.lt
         have hq2 : b0 < w31.heap.size /\ b1 < w31.heap.size /\ b2 < w31.heap.size /\ b3 < w31.heap.size /\ (b21 + 1) < w31.heap.size := ⟨Zn_31.out.bx.lt, Zd_32.out.bx.lt, Zm_33.out.bx.lt, Zf_34.out.bx.lt, Zy_40.out.bx.lt⟩
         generalize hW : World.alloc w31 _ = W42
         have hn := zA0 w31 (.cells #[.bool ge, .slice Ae ne ce] 24)
         rw [hW] at hn
         have hx : Ba W42 w31.heap.size ge Ae ne ce xse := by rw [<- hW]; exact ⟨Bx.new w31 _ _ _ _, Je_41.out.on (zA0 _ _)⟩
         have hlt : (b21 + 1) < w31.heap.size := Zy_40.out.bx.lt
         have Zn_42 := hI (Zn_31.out.on hn)
         have Zd_43 := hI (Zd_32.out.on hn)
         have Zm_44 := hI (Zm_33.out.on hn)
         have Zf_45 := hI (Zf_34.out.on hn)
         have Zi_46 := hI (Zi_35.out.on hn)
         have Xo_47 := hI (Xo_36.out.on hn)
         have B_48 := hI (bch B_37.out HRr.out hn)
         have P_49 := hI (P_38.out.on hn)
         have Zx_50 := hI (Zx_39.out.on hn)
         have Zy_51 := hI (Zy_40.out.on hn)
         generalize hbb : w31.heap.size = b22 at *
         clear hbb
         have Ze_52 : Hid (Ba W42 b22 ge Ae ne ce xse) := hI hx
         have O52 := hI hlt
         clear hn hx hW hlt Zn_31 Zd_32 Zm_33 Zf_34 Zi_35 Xo_36 B_37 P_38 Zx_39 Zy_40 Je_41
         have Ne : Hid (∀ j, v.ownBlock = some j -> j ≠ b22) := hI (fun j hj => Nat.ne_of_lt (hq j hj))
         have Ge := hI hq2
         clear hq hq2
         obtain ⟨kf0, kf1⟩ := Zf_45.out.cs
         have lf := Zf_45.out.bx.lt
         go_wp2_with fail
         have HZ : Hid (decide (qb.nd = 0) = false) := hI (by rw [zG5 Zf_45.out.sl Vf.out]; exact decide_eq_false fz)
         have C := zB2 qb.gd qb.Ad qb.nd qb.cd W42
         rw [HZ.out] at C
         refine C.mono ?_
         clear C
         clear kf0 kf1 lf
         rintro e w53 ⟨rfl, hb⟩
         have Zn_53 := hI (Zn_42.out.on hb)
         have Zd_54 := hI (Zd_43.out.on hb)
         have Zm_55 := hI (Zm_44.out.on hb)
         have Zf_56 := hI (Zf_45.out.on hb)
         have Zi_57 := hI (Zi_46.out.on hb)
         have Xo_58 := hI (Xo_47.out.on hb)
         have B_59 := hI (bch B_48.out HRr.out hb)
         have P_60 := hI (P_49.out.on hb)
         have Zx_61 := hI (Zx_50.out.on hb)
         have Zy_62 := hI (Zy_51.out.on hb)
         have Ze_63 := hI (Ze_52.out.on hb)
         clear hb Zn_42 Zd_43 Zm_44 Zf_45 Zi_46 Xo_47 B_48 P_49 Zx_50 Zy_51 Ze_52
         obtain ⟨ke0, ke1⟩ := Ze_63.out.cs
         have le := Ze_63.out.bx.lt
         obtain ⟨ki0, ki1⟩ := Zi_57.out.cs
         have li := Zi_57.out.bx.lt
         obtain ⟨km0, km1⟩ := Zm_55.out.cs
         have lm := Zm_55.out.bx.lt
         obtain ⟨kf0, kf1⟩ := Zf_56.out.cs
         have lf := Zf_56.out.bx.lt
         go_wp2_with fail
         have SG : Int.sign ((qt + 1) * f - m * 1) = -1 := Int.sign_eq_neg_one_of_neg (by have := LT.out; omega)
         refine (zF9 (⟨ge, Ae, ne, ce, xse, gi, Ai, ni, ci, xsi⟩ : RVal) (⟨qb.g, qb.A, qb.n, qb.c, qb.xs, qb.gd, qb.Ad, qb.nd, qb.cd, qb.ys⟩ : RVal) w53 Ze_63.out.sl Zi_57.out.sl Zm_55.out.sl Zf_56.out.sl (qt + 1) 1 m f (-1) ⟨Ve.out, Vi.out, Vm.out, Vf.out, by decide, by have := ST.out.f0; omega, SG⟩).mono ?_
         clear ke0 ke1 le ki0 ki1 li km0 km1 lm kf0 kf1 lf
         rintro e w64 ⟨rfl, hb⟩
         have Zn_64 := hI (Zn_53.out.on hb)
         have Zd_65 := hI (Zd_54.out.on hb)
         have Zm_66 := hI (Zm_55.out.on hb)
         have Zf_67 := hI (Zf_56.out.on hb)
         have Zi_68 := hI (Zi_57.out.on hb)
         have Xo_69 := hI (Xo_58.out.on hb)
         have B_70 := hI (bch B_59.out HRr.out hb)
         have P_71 := hI (P_60.out.on hb)
         have Zx_72 := hI (Zx_61.out.on hb)
         have Zy_73 := hI (Zy_62.out.on hb)
         have Ze_74 := hI (Ze_63.out.on hb)
         clear hb Zn_53 Zd_54 Zm_55 Zf_56 Zi_57 Xo_58 B_59 P_60 Zx_61 Zy_62 Ze_63
         clear SG
         clear fz
         obtain ⟨ke0, ke1⟩ := Ze_74.out.cs
         have le := Ze_74.out.bx.lt
         go_wp2_with (at_builtin; refine zT1 rfl _ _ rfl w64.heap.size ⟨ge, Ae, ne, ce, xse⟩ (qt + 1) (P_71.out.on (zA0 _ _)) rfl rfl (Bx.new _ _ _ _ _) ((Ze_74.out.sl).on (zA0 _ _)) Ve.out (by have := FE.out.k; omega) (by have := B_70.out.size; have := HRr.out; simp; omega) ?_; intro v9 w9 hP hg hob)
         clear ke0 ke1 le
         have hn := zA0 w64 (.cells #[.bool ge, .slice Ae ne ce] 24)
         have hP0 := P_71.out.on hn
         have Zn_75 : Hid (Ba w9 b0 qa.g qa.A qa.n qa.c qa.xs) := hI ((Zn_64.out.on hn).rowC hP0 hg (fun j hj => (NP.out j hj).1))
         have Zd_76 : Hid (Ba w9 b1 qa.gd qa.Ad qa.nd qa.cd qa.ys) := hI ((Zd_65.out.on hn).rowC hP0 hg (fun j hj => (NP.out j hj).2.1))
         have Zm_77 : Hid (Ba w9 b2 qb.g qb.A qb.n qb.c qb.xs) := hI ((Zm_66.out.on hn).rowC hP0 hg (fun j hj => (NP.out j hj).2.2.1))
         have Zf_78 : Hid (Ba w9 b3 qb.gd qb.Ad qb.nd qb.cd qb.ys) := hI ((Zf_67.out.on hn).rowC hP0 hg (fun j hj => (NP.out j hj).2.2.2.1))
         have Zi_79 : Hid (Ba w9 b11 gi Ai ni ci xsi) := hI ((Zi_68.out.on hn).rowC hP0 hg (fun j hj => (NP.out j hj).2.2.2.2.1))
         have Xo_80 : Hid (Rb w9 ro RVal.nil) := hI ((Xo_69.out.on hn).rowC hP0 hg (fun j hj => (NP.out j hj).2.2.2.2.2))
         have B_81 : Hid (Below r w w9) := hI (zU2 (bch B_70.out HRr.out hn) hP0 hg (Nat.le_refl _) (by have := B_70.out.size; have := HRr.out; simp; omega))
         have Zx_82 : Hid (Ba w9 b21 gx Ax nx cx xsx) := hI ((Zx_72.out.on hn).rowC hP0 hg (fun j hj => Nx.out j hj))
         have Zy_83 : Hid (Ba w9 (b21 + 1) gy Ay ny cy xsy) := hI ((Zy_73.out.on hn).rowC hP0 hg (fun j hj => Ny.out j hj))
         have Ze_84 : Hid (Ba w9 b22 ge Ae ne ce xse) := hI ((Ze_74.out.on hn).rowC hP0 hg (fun j hj => Ne.out j hj))
         have hsz : (w64.alloc (.cells #[.bool ge, .slice Ae ne ce] 24)).heap.size = w64.heap.size + 1 := by simp
         have NP9 : Hid (∀ j, v9.ownBlock = some j -> j ≠ b0 /\ j ≠ b1 /\ j ≠ b2 /\ j ≠ b3 /\ j ≠ b11 /\ j ≠ ro) := hI (by
          intro j hj
          rcases hob with e | e
          . rw [e] at hj; exact NP.out j hj
          . rw [e] at hj
            injection hj with hj
            have := Zn_64.out.bx.lt; have := Zd_65.out.bx.lt; have := Zm_66.out.bx.lt; have := Zf_67.out.bx.lt; have := Zi_68.out.bx.lt; have := Xo_69.out.lt;
            omega)
         have Mx : Hid (∀ j, v9.ownBlock = some j -> j ≠ b21) := hI (by
          intro j hj
          rcases hob with e | e
          . rw [e] at hj; exact Nx.out j hj
          . rw [e] at hj
            injection hj with hj
            have := Zx_72.out.bx.lt
            omega)
         have My : Hid (∀ j, v9.ownBlock = some j -> j ≠ (b21 + 1)) := hI (by
          intro j hj
          rcases hob with e | e
          . rw [e] at hj; exact Ny.out j hj
          . rw [e] at hj
            injection hj with hj
            have := Zy_73.out.bx.lt
            omega)
         have Me : Hid (∀ j, v9.ownBlock = some j -> j ≠ b22) := hI (by
          intro j hj
          rcases hob with e | e
          . rw [e] at hj; exact Ne.out j hj
          . rw [e] at hj
            injection hj with hj
            have := Ze_74.out.bx.lt
            omega)
         have P_9 := hI hP
         clear hP hg hob hn hP0 hsz NP P_71 Zn_64 Zd_65 Zm_66 Zf_67 Zi_68 Xo_69 B_70 Zx_72 Zy_73 Ze_74 Nx Ny Ne
         have NP := NP9
         clear NP9
         have Nx := Mx
         clear Mx
         have Ny := My
         clear My
         have Ne := Me
         clear Me
         go_wp2_with fail
         go_meet
         have EQ : PS = ps ++ [qt + 1] := by
          obtain ⟨rest, r1, r2⟩ := RN.out
          rw [r2, run_last r1 (by rw [HQ.out.1]; exact LT.out), HQ.out.1]
         exact ⟨_, _, rfl, by rw [EQ, List.length_append, List.length_singleton]; have := FE.out.k; omega, by rw [EQ]; exact P_9.out, Zi_79.out, Xo_80.out, B_81.out, fun j hj => (NP.out j hj).2.2.2.2⟩
       . have LT := hI (show m <= (n / d + 1) * f by rw [HQ.out.1]; omega)
         have LT2 := hI (show m <= (qt + 1) * f by omega)
         clear lt
         have EA := hI (zB1 big)
         have HF2 := hI (show Hid ((qt + 1).natAbs < BIG) from hI big)
         clear big
         obtain ⟨kx0, kx1⟩ := Zx_29.out.cs
         have lx := Zx_29.out.bx.lt
         obtain ⟨ki0, ki1⟩ := Zi_25.out.cs
         have li := Zi_25.out.bx.lt
         go_wp2_with fail
         have C := radd_z Zx_29.out.sl Zi_25.out.sl Vx.out Vi.out
         rw [EA.out.1, EA.out.2] at C
         refine C.mono ?_
         clear C
         clear kx0 kx1 lx ki0 ki1 li
         rintro e w31 ⟨ge, Ae, ne, ce, xse, rfl, hs, ho, hb⟩
         have Zn_31 := hI (Zn_21.out.on hb)
         have Zd_32 := hI (Zd_22.out.on hb)
         have Zm_33 := hI (Zm_23.out.on hb)
         have Zf_34 := hI (Zf_24.out.on hb)
         have Zi_35 := hI (Zi_25.out.on hb)
         have Xo_36 := hI (Xo_26.out.on hb)
         have B_37 := hI (bch B_27.out HRr.out hb)
         have P_38 := hI (P_28.out.on hb)
         have Zx_39 := hI (Zx_29.out.on hb)
         have Zy_40 := hI (Zy_30.out.on hb)
         have Je_41 : Hid (Sl w31 w31.heap.size Ae ne ce xse) := hI hs
         clear hb Zn_21 Zd_22 Zm_23 Zf_24 Zi_25 Xo_26 B_27 P_28 Zx_29 Zy_30 hs
         have Ve := hI ho
         clear ho
         obtain ⟨kf0, kf1⟩ := (Zf_34.out.on (zA0 w31 (.cells #[.bool ge, .slice Ae ne ce] 24))).cs
         have lf := Zf_34.out.bx.lt
         go_upto_region 6 with fail
         clear kf0 kf1 lf
         have hq : ∀ j, v.ownBlock = some j -> j < w31.heap.size := P_38.out.lt
         have hq2 : b0 < w31.heap.size /\ b1 < w31.heap.size /\ b2 < w31.heap.size /\ b3 < w31.heap.size /\ (b21 + 1) < w31.heap.size := ⟨Zn_31.out.bx.lt, Zd_32.out.bx.lt, Zm_33.out.bx.lt, Zf_34.out.bx.lt, Zy_40.out.bx.lt⟩
         generalize hW : World.alloc w31 _ = W42
         have hn := zA0 w31 (.cells #[.bool ge, .slice Ae ne ce] 24)
         rw [hW] at hn
         have hx : Ba W42 w31.heap.size ge Ae ne ce xse := by rw [<- hW]; exact ⟨Bx.new w31 _ _ _ _, Je_41.out.on (zA0 _ _)⟩
         have hlt : (b21 + 1) < w31.heap.size := Zy_40.out.bx.lt
         have Zn_42 := hI (Zn_31.out.on hn)
         have Zd_43 := hI (Zd_32.out.on hn)
         have Zm_44 := hI (Zm_33.out.on hn)
         have Zf_45 := hI (Zf_34.out.on hn)
         have Zi_46 := hI (Zi_35.out.on hn)
         have Xo_47 := hI (Xo_36.out.on hn)
         have B_48 := hI (bch B_37.out HRr.out hn)
         have P_49 := hI (P_38.out.on hn)
         have Zx_50 := hI (Zx_39.out.on hn)
         have Zy_51 := hI (Zy_40.out.on hn)
         generalize hbb : w31.heap.size = b22 at *
         clear hbb
         have Ze_52 : Hid (Ba W42 b22 ge Ae ne ce xse) := hI hx
         have O52 := hI hlt
         clear hn hx hW hlt Zn_31 Zd_32 Zm_33 Zf_34 Zi_35 Xo_36 B_37 P_38 Zx_39 Zy_40 Je_41
         have Ne : Hid (∀ j, v.ownBlock = some j -> j ≠ b22) := hI (fun j hj => Nat.ne_of_lt (hq j hj))
         have Ge := hI hq2
         clear hq hq2
         obtain ⟨kf0, kf1⟩ := Zf_45.out.cs
         have lf := Zf_45.out.bx.lt
         go_wp2_with fail
         have HZ : Hid (decide (qb.nd = 0) = false) := hI (by rw [zG5 Zf_45.out.sl Vf.out]; exact decide_eq_false fz)
         have C := zB2 qb.gd qb.Ad qb.nd qb.cd W42
         rw [HZ.out] at C
         refine C.mono ?_
         clear C
         clear kf0 kf1 lf
         rintro e w53 ⟨rfl, hb⟩
         have Zn_53 := hI (Zn_42.out.on hb)
         have Zd_54 := hI (Zd_43.out.on hb)
         have Zm_55 := hI (Zm_44.out.on hb)
         have Zf_56 := hI (Zf_45.out.on hb)
         have Zi_57 := hI (Zi_46.out.on hb)
         have Xo_58 := hI (Xo_47.out.on hb)
         have B_59 := hI (bch B_48.out HRr.out hb)
         have P_60 := hI (P_49.out.on hb)
         have Zx_61 := hI (Zx_50.out.on hb)
         have Zy_62 := hI (Zy_51.out.on hb)
         have Ze_63 := hI (Ze_52.out.on hb)
         clear hb Zn_42 Zd_43 Zm_44 Zf_45 Zi_46 Xo_47 B_48 P_49 Zx_50 Zy_51 Ze_52
         obtain ⟨ke0, ke1⟩ := Ze_63.out.cs
         have le := Ze_63.out.bx.lt
         obtain ⟨ki0, ki1⟩ := Zi_57.out.cs
         have li := Zi_57.out.bx.lt
         obtain ⟨km0, km1⟩ := Zm_55.out.cs
         have lm := Zm_55.out.bx.lt
         obtain ⟨kf0, kf1⟩ := Zf_56.out.cs
         have lf := Zf_56.out.bx.lt
         go_wp2_with fail
         obtain ⟨u, hu⟩ : ∃ u, Int.sign ((qt + 1) * f - m * 1) = u := ⟨_, rfl⟩
         refine (zF9 (⟨ge, Ae, ne, ce, xse, gi, Ai, ni, ci, xsi⟩ : RVal) (⟨qb.g, qb.A, qb.n, qb.c, qb.xs, qb.gd, qb.Ad, qb.nd, qb.cd, qb.ys⟩ : RVal) w53 Ze_63.out.sl Zi_57.out.sl Zm_55.out.sl Zf_56.out.sl (qt + 1) 1 m f u ⟨Ve.out, Vi.out, Vm.out, Vf.out, by decide, by have := ST.out.f0; omega, hu⟩).mono ?_
         clear ke0 ke1 le ki0 ki1 li km0 km1 lm kf0 kf1 lf
         rintro e w64 ⟨rfl, hb⟩
         have Zn_64 := hI (Zn_53.out.on hb)
         have Zd_65 := hI (Zd_54.out.on hb)
         have Zm_66 := hI (Zm_55.out.on hb)
         have Zf_67 := hI (Zf_56.out.on hb)
         have Zi_68 := hI (Zi_57.out.on hb)
         have Xo_69 := hI (Xo_58.out.on hb)
         have B_70 := hI (bch B_59.out HRr.out hb)
         have P_71 := hI (P_60.out.on hb)
         have Zx_72 := hI (Zx_61.out.on hb)
         have Zy_73 := hI (Zy_62.out.on hb)
         have Ze_74 := hI (Ze_63.out.on hb)
         clear hb Zn_53 Zd_54 Zm_55 Zf_56 Zi_57 Xo_58 B_59 P_60 Zx_61 Zy_62 Ze_63
         have gu : decide (u < 0) = false := decide_eq_false (by rcases sign_three ((qt + 1) * f - m * 1) with ⟨a, b⟩ | ⟨a, b⟩ | ⟨a, b⟩ <;> have := LT2.out <;> omega)
         clear fz hu
         clear Ze_74
         clear Ne
         obtain ⟨kx0, kx1⟩ := Zx_72.out.cs
         have lx := Zx_72.out.bx.lt
         go_upto_region 11 with (at_builtin; refine zT1 rfl _ _ rfl w64.heap.size ⟨gx, Ax, nx, cx, xsx⟩ (qt) (P_71.out.on (zA0 _ _)) rfl rfl (Bx.new _ _ _ _ _) ((Zx_72.out.sl).on (zA0 _ _)) Vx.out (by have := FE.out.k; omega) (by have := B_70.out.size; have := HRr.out; simp; omega) ?_; intro v9 w9 hP hg hob)
         clear kx0 kx1 lx
         have hn := zA0 w64 (.cells #[.bool gx, .slice Ax nx cx] 24)
         have hP0 := P_71.out.on hn
         have Zn_75 : Hid (Ba w9 b0 qa.g qa.A qa.n qa.c qa.xs) := hI ((Zn_64.out.on hn).rowC hP0 hg (fun j hj => (NP.out j hj).1))
         have Zd_76 : Hid (Ba w9 b1 qa.gd qa.Ad qa.nd qa.cd qa.ys) := hI ((Zd_65.out.on hn).rowC hP0 hg (fun j hj => (NP.out j hj).2.1))
         have Zm_77 : Hid (Ba w9 b2 qb.g qb.A qb.n qb.c qb.xs) := hI ((Zm_66.out.on hn).rowC hP0 hg (fun j hj => (NP.out j hj).2.2.1))
         have Zf_78 : Hid (Ba w9 b3 qb.gd qb.Ad qb.nd qb.cd qb.ys) := hI ((Zf_67.out.on hn).rowC hP0 hg (fun j hj => (NP.out j hj).2.2.2.1))
         have Zi_79 : Hid (Ba w9 b11 gi Ai ni ci xsi) := hI ((Zi_68.out.on hn).rowC hP0 hg (fun j hj => (NP.out j hj).2.2.2.2.1))
         have Xo_80 : Hid (Rb w9 ro RVal.nil) := hI ((Xo_69.out.on hn).rowC hP0 hg (fun j hj => (NP.out j hj).2.2.2.2.2))
         have B_81 : Hid (Below r w w9) := hI (zU2 (bch B_70.out HRr.out hn) hP0 hg (Nat.le_refl _) (by have := B_70.out.size; have := HRr.out; simp; omega))
         have Zx_82 : Hid (Ba w9 b21 gx Ax nx cx xsx) := hI ((Zx_72.out.on hn).rowC hP0 hg (fun j hj => Nx.out j hj))
         have Zy_83 : Hid (Ba w9 (b21 + 1) gy Ay ny cy xsy) := hI ((Zy_73.out.on hn).rowC hP0 hg (fun j hj => Ny.out j hj))
         have hsz : (w64.alloc (.cells #[.bool gx, .slice Ax nx cx] 24)).heap.size = w64.heap.size + 1 := by simp
         have NP9 : Hid (∀ j, v9.ownBlock = some j -> j ≠ b0 /\ j ≠ b1 /\ j ≠ b2 /\ j ≠ b3 /\ j ≠ b11 /\ j ≠ ro) := hI (by
          intro j hj
          rcases hob with e | e
          . rw [e] at hj; exact NP.out j hj
          . rw [e] at hj
            injection hj with hj
            have := Zn_64.out.bx.lt; have := Zd_65.out.bx.lt; have := Zm_66.out.bx.lt; have := Zf_67.out.bx.lt; have := Zi_68.out.bx.lt; have := Xo_69.out.lt;
            omega)
         have Mx : Hid (∀ j, v9.ownBlock = some j -> j ≠ b21) := hI (by
          intro j hj
          rcases hob with e | e
          . rw [e] at hj; exact Nx.out j hj
          . rw [e] at hj
            injection hj with hj
            have := Zx_72.out.bx.lt
            omega)
         have My : Hid (∀ j, v9.ownBlock = some j -> j ≠ (b21 + 1)) := hI (by
          intro j hj
          rcases hob with e | e
          . rw [e] at hj; exact Ny.out j hj
          . rw [e] at hj
            injection hj with hj
            have := Zy_73.out.bx.lt
            omega)
         have P_9 := hI hP
         clear hP hg hob hn hP0 hsz NP P_71 Zn_64 Zd_65 Zm_66 Zf_67 Zi_68 Xo_69 B_70 Zx_72 Zy_73 Nx Ny
         have NP := NP9
         clear NP9
         have Nx := Mx
         clear Mx
         have Ny := My
         clear My
         clear gu
         have G1 := hI (ST.out.goes (Int.not_lt.2 LT.out))
         have EM := hI (zB1 (z := qt * f) (by have := Q1.out; have := BD.out.2.1; have := Int.mul_nonneg Q1.out.1 ST.out.f0; omega))
         have ES := hI (zB1 (z := m - qt * f) (by have := Q1.out; have := BD.out.2.1; have := Int.mul_nonneg Q1.out.1 ST.out.f0; omega))
         obtain ⟨kx0, kx1⟩ := Zx_82.out.cs
         have lx := Zx_82.out.bx.lt
         obtain ⟨kf0, kf1⟩ := Zf_78.out.cs
         have lf := Zf_78.out.bx.lt
         go_wp2_with fail
         have C := rmul_z Zx_82.out.sl Zf_78.out.sl Vx.out Vf.out
         rw [EM.out.1, EM.out.2] at C
         refine C.mono ?_
         clear C
         clear kx0 kx1 lx kf0 kf1 lf
         rintro e w84 ⟨gt, At, nt, ct, xst, rfl, hs, ho, hb⟩
         have Zn_84 := hI (Zn_75.out.on hb)
         have Zd_85 := hI (Zd_76.out.on hb)
         have Zm_86 := hI (Zm_77.out.on hb)
         have Zf_87 := hI (Zf_78.out.on hb)
         have Zi_88 := hI (Zi_79.out.on hb)
         have Xo_89 := hI (Xo_80.out.on hb)
         have B_90 := hI (bch B_81.out HRr.out hb)
         have Zx_91 := hI (Zx_82.out.on hb)
         have Zy_92 := hI (Zy_83.out.on hb)
         have P_93 := hI (P_9.out.on hb)
         have Jt_94 : Hid (Sl w84 w84.heap.size At nt ct xst) := hI hs
         clear hb Zn_75 Zd_76 Zm_77 Zf_78 Zi_79 Xo_80 B_81 Zx_82 Zy_83 P_9 hs
         have Vt := hI ho
         clear ho
         clear Zx_91
         clear Nx
         obtain ⟨km0, km1⟩ := (Zm_86.out.on (zA0 w84 (.cells #[.bool gt, .slice At nt ct] 24))).cs
         have lm := Zm_86.out.bx.lt
         go_upto_region 12 with fail
         clear km0 km1 lm
         have hq : ∀ j, v9.ownBlock = some j -> j < w84.heap.size := P_93.out.lt
         have hq2 : b0 < w84.heap.size /\ b1 < w84.heap.size /\ b2 < w84.heap.size /\ b3 < w84.heap.size /\ (b21 + 1) < w84.heap.size := ⟨Zn_84.out.bx.lt, Zd_85.out.bx.lt, Zm_86.out.bx.lt, Zf_87.out.bx.lt, Zy_92.out.bx.lt⟩
         generalize hW : World.alloc w84 _ = W95
         have hn := zA0 w84 (.cells #[.bool gt, .slice At nt ct] 24)
         rw [hW] at hn
         have hx : Ba W95 w84.heap.size gt At nt ct xst := by rw [<- hW]; exact ⟨Bx.new w84 _ _ _ _, Jt_94.out.on (zA0 _ _)⟩
         have hlt : (b21 + 1) < w84.heap.size := Zy_92.out.bx.lt
         have Zn_95 := hI (Zn_84.out.on hn)
         have Zd_96 := hI (Zd_85.out.on hn)
         have Zm_97 := hI (Zm_86.out.on hn)
         have Zf_98 := hI (Zf_87.out.on hn)
         have Zi_99 := hI (Zi_88.out.on hn)
         have Xo_100 := hI (Xo_89.out.on hn)
         have B_101 := hI (bch B_90.out HRr.out hn)
         have Zy_102 := hI (Zy_92.out.on hn)
         have P_103 := hI (P_93.out.on hn)
         generalize hbb : w84.heap.size = b23 at *
         clear hbb
         have Zt_104 : Hid (Ba W95 b23 gt At nt ct xst) := hI hx
         have O104 := hI hlt
         clear hn hx hW hlt Zn_84 Zd_85 Zm_86 Zf_87 Zi_88 Xo_89 B_90 Zy_92 P_93 Jt_94
         have Nt : Hid (∀ j, v9.ownBlock = some j -> j ≠ b23) := hI (fun j hj => Nat.ne_of_lt (hq j hj))
         have Gt := hI hq2
         clear hq hq2
         obtain ⟨km0, km1⟩ := Zm_97.out.cs
         have lm := Zm_97.out.bx.lt
         obtain ⟨kt0, kt1⟩ := Zt_104.out.cs
         have lt := Zt_104.out.bx.lt
         go_wp2_with fail
         have C := rsub_z Zm_97.out.sl Zt_104.out.sl Vm.out Vt.out
         rw [ES.out.1, ES.out.2] at C
         refine C.mono ?_
         clear C
         clear km0 km1 lm kt0 kt1 lt
         rintro e w105 ⟨gs, As, ns, cs, xss, rfl, hs, ho, hb⟩
         have Zn_105 := hI (Zn_95.out.on hb)
         have Zd_106 := hI (Zd_96.out.on hb)
         have Zm_107 := hI (Zm_97.out.on hb)
         have Zf_108 := hI (Zf_98.out.on hb)
         have Zi_109 := hI (Zi_99.out.on hb)
         have Xo_110 := hI (Xo_100.out.on hb)
         have B_111 := hI (bch B_101.out HRr.out hb)
         have Zy_112 := hI (Zy_102.out.on hb)
         have P_113 := hI (P_103.out.on hb)
         have Zt_114 := hI (Zt_104.out.on hb)
         have Js_115 : Hid (Sl w105 w105.heap.size As ns cs xss) := hI hs
         clear hb Zn_95 Zd_96 Zm_97 Zf_98 Zi_99 Xo_100 B_101 Zy_102 P_103 Zt_104 hs
         have Vs := hI ho
         clear ho
         clear Zt_114
         clear Nt
         go_upto_region 15 with fail
         have hq : ∀ j, v9.ownBlock = some j -> j < w105.heap.size := P_113.out.lt
         have hq2 : b0 < w105.heap.size /\ b1 < w105.heap.size /\ b2 < w105.heap.size /\ b3 < w105.heap.size /\ (b21 + 1) < w105.heap.size := ⟨Zn_105.out.bx.lt, Zd_106.out.bx.lt, Zm_107.out.bx.lt, Zf_108.out.bx.lt, Zy_112.out.bx.lt⟩
         generalize hW : World.alloc w105 _ = W116
         have hn := zA0 w105 (.cells #[.bool gs, .slice As ns cs] 24)
         rw [hW] at hn
         have hx : Ba W116 w105.heap.size gs As ns cs xss := by rw [<- hW]; exact ⟨Bx.new w105 _ _ _ _, Js_115.out.on (zA0 _ _)⟩
         have hlt : (b21 + 1) < w105.heap.size := Zy_112.out.bx.lt
         have Zn_116 := hI (Zn_105.out.on hn)
         have Zd_117 := hI (Zd_106.out.on hn)
         have Zm_118 := hI (Zm_107.out.on hn)
         have Zf_119 := hI (Zf_108.out.on hn)
         have Zi_120 := hI (Zi_109.out.on hn)
         have Xo_121 := hI (Xo_110.out.on hn)
         have B_122 := hI (bch B_111.out HRr.out hn)
         have Zy_123 := hI (Zy_112.out.on hn)
         have P_124 := hI (P_113.out.on hn)
         generalize hbb : w105.heap.size = b24 at *
         clear hbb
         have Zs_125 : Hid (Ba W116 b24 gs As ns cs xss) := hI hx
         have O125 := hI hlt
         clear hn hx hW hlt Zn_105 Zd_106 Zm_107 Zf_108 Zi_109 Xo_110 B_111 Zy_112 P_113 Js_115
         have Ns : Hid (∀ j, v9.ownBlock = some j -> j ≠ b24) := hI (fun j hj => Nat.ne_of_lt (hq j hj))
         have Gs := hI hq2
         clear hq hq2
         go_upto_region 17 with fail
         obtain ⟨kn0, kn1⟩ := Zn_116.out.cs
         obtain ⟨fn0, fn1⟩ := Zn_116.out.fs
         have ln := Zn_116.out.bx.lt
         obtain ⟨kd0, kd1⟩ := Zd_117.out.cs
         obtain ⟨fd0, fd1⟩ := Zd_117.out.fs
         have ld := Zd_117.out.bx.lt
         obtain ⟨km0, km1⟩ := Zm_118.out.cs
         obtain ⟨fm0, fm1⟩ := Zm_118.out.fs
         have lm := Zm_118.out.bx.lt
         obtain ⟨kf0, kf1⟩ := Zf_119.out.cs
         obtain ⟨ff0, ff1⟩ := Zf_119.out.fs
         have lf := Zf_119.out.bx.lt
         obtain ⟨ky0, ky1⟩ := Zy_123.out.cs
         have ly := Zy_123.out.bx.lt
         obtain ⟨ks0, ks1⟩ := Zs_125.out.cs
         have ls := Zs_125.out.bx.lt
         have ny1 := Ny
         clear Ny
         have nnd : b0 ≠ b1 := Dnd.out
         have ndn := nnd.symm
         have nnm : b0 ≠ b2 := Dnm.out
         have nmn := nnm.symm
         have nnf : b0 ≠ b3 := Dnf.out
         have nfn := nnf.symm
         have nny : b0 ≠ (b21 + 1) := Nat.ne_of_lt Gy.out.1
         have nyn := nny.symm
         have nns : b0 ≠ b24 := Nat.ne_of_lt Gs.out.1
         have nsn := nns.symm
         have ndm : b1 ≠ b2 := Ddm.out
         have nmd := ndm.symm
         have ndf : b1 ≠ b3 := Ddf.out
         have nfd := ndf.symm
         have ndy : b1 ≠ (b21 + 1) := Nat.ne_of_lt Gy.out.2.1
         have nyd := ndy.symm
         have nds : b1 ≠ b24 := Nat.ne_of_lt Gs.out.2.1
         have nsd := nds.symm
         have nmf : b2 ≠ b3 := Dmf.out
         have nfm := nmf.symm
         have nmy : b2 ≠ (b21 + 1) := Nat.ne_of_lt Gy.out.2.2.1
         have nym := nmy.symm
         have nms : b2 ≠ b24 := Nat.ne_of_lt Gs.out.2.2.1
         have nsm := nms.symm
         have nfy : b3 ≠ (b21 + 1) := Nat.ne_of_lt Gy.out.2.2.2
         have nyf := nfy.symm
         have nfs : b3 ≠ b24 := Nat.ne_of_lt Gs.out.2.2.2.1
         have nsf := nfs.symm
         have nys : (b21 + 1) ≠ b24 := Nat.ne_of_lt Gs.out.2.2.2.2
         have nsy := nys.symm
         have hC : ∀ (i j : Nat) (w' : World), i <= j -> ((i = 0 -> w'.cell? ⟨b3, 0, none⟩ = some (.bool qb.gd) /\ w'.cell? ⟨b3, 1, none⟩ = some (.slice qb.Ad qb.nd qb.cd) /\ w'.cell? ⟨b1, 0, none⟩ = some (.bool qa.gd) /\ w'.cell? ⟨b1, 1, none⟩ = some (.slice qa.Ad qa.nd qa.cd)) /\ (i <= 1 -> w'.cell? ⟨b24, 0, none⟩ = some (.bool gs) /\ w'.cell? ⟨b24, 1, none⟩ = some (.slice As ns cs)) /\ (i <= 3 -> w'.cell? ⟨(b21 + 1), 0, none⟩ = some (.bool gy) /\ w'.cell? ⟨(b21 + 1), 1, none⟩ = some (.slice Ay ny cy))) -> ((j = 0 -> w'.cell? ⟨b3, 0, none⟩ = some (.bool qb.gd) /\ w'.cell? ⟨b3, 1, none⟩ = some (.slice qb.Ad qb.nd qb.cd) /\ w'.cell? ⟨b1, 0, none⟩ = some (.bool qa.gd) /\ w'.cell? ⟨b1, 1, none⟩ = some (.slice qa.Ad qa.nd qa.cd)) /\ (j <= 1 -> w'.cell? ⟨b24, 0, none⟩ = some (.bool gs) /\ w'.cell? ⟨b24, 1, none⟩ = some (.slice As ns cs)) /\ (j <= 3 -> w'.cell? ⟨(b21 + 1), 0, none⟩ = some (.bool gy) /\ w'.cell? ⟨(b21 + 1), 1, none⟩ = some (.slice Ay ny cy))) := fun i j w' hij h => ⟨fun e => h.1 (by omega), fun e => h.2.1 (by omega), fun e => h.2.2 (by omega)⟩
         have hS : (fun w' : World => (w'.cell? ⟨b3, 0, none⟩ = some (.bool qb.gd) /\ w'.cell? ⟨b3, 1, none⟩ = some (.slice qb.Ad qb.nd qb.cd) /\ w'.cell? ⟨b1, 0, none⟩ = some (.bool qa.gd) /\ w'.cell? ⟨b1, 1, none⟩ = some (.slice qa.Ad qa.nd qa.cd)) /\ (w'.cell? ⟨b24, 0, none⟩ = some (.bool gs) /\ w'.cell? ⟨b24, 1, none⟩ = some (.slice As ns cs)) /\ w'.cell? ⟨(b21 + 1), 0, none⟩ = some (.bool gy) /\ w'.cell? ⟨(b21 + 1), 1, none⟩ = some (.slice Ay ny cy)) W116 := ⟨⟨kf0, kf1, kd0, kd1⟩, ⟨ks0, ks1⟩, ky0, ky1⟩
         refine zH5 (fun j w' => (j = 0 -> w'.cell? ⟨b3, 0, none⟩ = some (.bool qb.gd) /\ w'.cell? ⟨b3, 1, none⟩ = some (.slice qb.Ad qb.nd qb.cd) /\ w'.cell? ⟨b1, 0, none⟩ = some (.bool qa.gd) /\ w'.cell? ⟨b1, 1, none⟩ = some (.slice qa.Ad qa.nd qa.cd)) /\ (j <= 1 -> w'.cell? ⟨b24, 0, none⟩ = some (.bool gs) /\ w'.cell? ⟨b24, 1, none⟩ = some (.slice As ns cs)) /\ (j <= 3 -> w'.cell? ⟨(b21 + 1), 0, none⟩ = some (.bool gy) /\ w'.cell? ⟨(b21 + 1), 1, none⟩ = some (.slice Ay ny cy))) (fun j => match j with | 0 => 0 | 2 => 0 | 1 => 1 | 4 => 1 | 5 => 2 | 3 => 3 | 6 => 3 | _ => 4) (by kernel_rfl) ?_
         have hS : (fun w' : World => (w'.cell? ⟨b3, 0, none⟩ = some (.bool qb.gd) /\ w'.cell? ⟨b3, 1, none⟩ = some (.slice qb.Ad qb.nd qb.cd) /\ w'.cell? ⟨b1, 0, none⟩ = some (.bool qa.gd) /\ w'.cell? ⟨b1, 1, none⟩ = some (.slice qa.Ad qa.nd qa.cd)) /\ (w'.cell? ⟨b24, 0, none⟩ = some (.bool gs) /\ w'.cell? ⟨b24, 1, none⟩ = some (.slice As ns cs)) /\ w'.cell? ⟨(b21 + 1), 0, none⟩ = some (.bool gy) /\ w'.cell? ⟨(b21 + 1), 1, none⟩ = some (.slice Ay ny cy)) W116.drew := by go_keep
         try dsimp only at hS
         refine zA7 hC 3 (v := .agg #[.bool gy, .slice Ay ny cy]) rfl (by kernel_rfl) (by kernel_rfl) (by kernel_rfl) (by kernel_rfl) (fun _ _ _ h => h) (Or.inl ⟨by rfl, by (intro w' hSw; obtain ⟨fx0, fx1⟩ := hSw.2.2 (by decide); go_simp)⟩) ⟨fun _ => hS.1, fun _ => hS.2.1, fun _ => hS.2.2⟩ ?_
         try simp only [Act.put, List.setIfInBounds_toArray, List.set_cons_zero, List.set_cons_succ]
         refine zA7 hC 1 (v := .agg #[.bool gs, .slice As ns cs]) rfl (by kernel_rfl) (by kernel_rfl) (by kernel_rfl) (by kernel_rfl) (fun _ _ _ h => h) (Or.inl ⟨by rfl, by (intro w' hSw; obtain ⟨fx0, fx1⟩ := hSw.2.1 (by decide); go_simp)⟩) ⟨fun _ => hS.1, fun _ => hS.2.1, fun _ => hS.2.2⟩ ?_
         try simp only [Act.put, List.setIfInBounds_toArray, List.set_cons_zero, List.set_cons_succ]
         refine zA7 hC 0 (v := .agg #[.bool qb.gd, .slice qb.Ad qb.nd qb.cd]) rfl (by kernel_rfl) (by kernel_rfl) (by kernel_rfl) (by kernel_rfl) (fun _ _ _ h => h) (Or.inl ⟨by rfl, by (intro w' hSw; obtain ⟨fx0, fx1, fx2, fx3⟩ := hSw.1 rfl; go_simp)⟩) ⟨fun _ => hS.1, fun _ => hS.2.1, fun _ => hS.2.2⟩ ?_
         try simp only [Act.put, List.setIfInBounds_toArray, List.set_cons_zero, List.set_cons_succ]
         refine zA7 hC 2 (v := .agg #[.bool qa.gd, .slice qa.Ad qa.nd qa.cd]) rfl (by kernel_rfl) (by kernel_rfl) (by kernel_rfl) (by kernel_rfl) (fun _ _ _ h => h) (Or.inl ⟨by rfl, by (intro w' hSw; obtain ⟨fx0, fx1, fx2, fx3⟩ := hSw.1 rfl; go_simp)⟩) ⟨fun _ => hS.1, fun _ => hS.2.1, fun _ => hS.2.2⟩ ?_
         try simp only [Act.put, List.setIfInBounds_toArray, List.set_cons_zero, List.set_cons_succ]
         clear hS
         refine zC9 4 (by kernel_rfl) rfl (fun KK hKK => ?_)
         go_simp
         refine hKK.out _ _ ⟨fun e => absurd e (by decide), fun _ => (by go_keep), fun _ => (by go_keep)⟩ ?_
         clear hKK KK
         try simp only [Act.put, List.setIfInBounds_toArray, List.set_cons_zero, List.set_cons_succ]
         refine zC9 5 (by kernel_rfl) rfl (fun KK hKK => ?_)
         go_simp
         refine hKK.out _ _ ⟨fun e => absurd e (by decide), fun e => absurd e (by decide), fun _ => (by go_keep)⟩ ?_
         clear hKK KK
         try simp only [Act.put, List.setIfInBounds_toArray, List.set_cons_zero, List.set_cons_succ]
         refine zC9 6 (by kernel_rfl) rfl (fun KK hKK => ?_)
         go_simp
         refine hKK.out _ _ ⟨fun e => absurd e (by decide), fun e => absurd e (by decide), fun _ => (by go_keep)⟩ ?_
         clear hKK KK
         try simp only [Act.put, List.setIfInBounds_toArray, List.set_cons_zero, List.set_cons_succ]
         refine zC9 7 (by kernel_rfl) rfl (fun KK hKK => ?_)
         go_simp
         refine hKK.out _ _ ⟨fun e => absurd e (by decide), fun e => absurd e (by decide), fun e => absurd e (by decide)⟩ ?_
         clear hKK KK
         try simp only [Act.put, List.setIfInBounds_toArray, List.set_cons_zero, List.set_cons_succ]
         refine zJ3 (by kernel_rfl) ?_ _
         go_wp2_with fail
         clear kn0 kn1 fn0 fn1 ln kd0 kd1 fd0 fd1 ld km0 km1 fm0 fm1 lm kf0 kf1 ff0 ff1 lf ky0 ky1 ly ks0 ks1 ls nnd ndn nnm nmn nnf nfn nny nyn nns nsn ndm nmd ndf nfd ndy nyd nds nsd nmf nfm nmy nym nms nsm nfy nyf nfs nsf nys nsy
         have Jf1_0 : Hid (Sl W116 W116.heap.size qb.Ad qb.nd qb.cd qb.ys) := hI Zf_119.out.sl
         have Jf2_0 : Hid (Sl W116 W116.heap.size As ns cs xss) := hI Zs_125.out.sl
         have Jf3_0 : Hid (Sl W116 W116.heap.size qa.Ad qa.nd qa.cd qa.ys) := hI Zd_117.out.sl
         have Jf4_0 : Hid (Sl W116 W116.heap.size Ay ny cy xsy) := hI Zy_123.out.sl
         clear Zy_123 Zs_125
         generalize hW : World.setCell (World.setCell W116 _ _) _ _ = W126
         have Zn_126 : Hid (Ba W126 b0 qb.gd qb.Ad qb.nd qb.cd qb.ys) := by rw [<- hW]; exact hI (Zn_116.out.stored Jf1_0.out _)
         have Zd_127 : Hid (Ba W126 b1 qa.gd qa.Ad qa.nd qa.cd qa.ys) := by rw [<- hW]; exact hI (Zd_117.out.aside Zn_116.out (by exact Ddn.out) _ _)
         have Zm_128 : Hid (Ba W126 b2 qb.g qb.A qb.n qb.c qb.xs) := by rw [<- hW]; exact hI (Zm_118.out.aside Zn_116.out (by exact Dmn.out) _ _)
         have Zf_129 : Hid (Ba W126 b3 qb.gd qb.Ad qb.nd qb.cd qb.ys) := by rw [<- hW]; exact hI (Zf_119.out.aside Zn_116.out (by exact Dfn.out) _ _)
         have Zi_130 : Hid (Ba W126 b11 gi Ai ni ci xsi) := by rw [<- hW]; exact hI (Zi_120.out.aside Zn_116.out (by exact Din.out) _ _)
         have Xo_131 : Hid (Rb W126 ro RVal.nil) := by rw [<- hW]; exact hI (Xo_121.out.aside Zn_116.out (by exact Don.out) _ _)
         have B_132 : Hid (Below r w W126) := by rw [<- hW]; exact hI (zA1 B_122.out (by exact Rn.out) _ _)
         have P_133 : Hid (zF3 W126 r v9 (L ++ [⟨gx, Ax, nx, cx, xsx⟩]) (ps ++ [qt])) := by rw [<- hW]; exact hI (P_124.out.ret Zn_116.out.bx (fun j hj => (NP.out j hj).1) _ _)
         have Jf2_134 : Hid (Sl W126 W126.heap.size As ns cs xss) := by rw [<- hW]; exact hI (Jf2_0.out.ret Zn_116.out.bx _ _)
         have Jf3_135 : Hid (Sl W126 W126.heap.size qa.Ad qa.nd qa.cd qa.ys) := by rw [<- hW]; exact hI (Jf3_0.out.ret Zn_116.out.bx _ _)
         have Jf4_136 : Hid (Sl W126 W126.heap.size Ay ny cy xsy) := by rw [<- hW]; exact hI (Jf4_0.out.ret Zn_116.out.bx _ _)
         clear hW Zn_116 Zd_117 Zm_118 Zf_119 Zi_120 Xo_121 B_122 P_124 Jf2_0 Jf3_0 Jf4_0 Jf1_0
         generalize hW : World.setCell (World.setCell W126 _ _) _ _ = W137
         have Zn_137 : Hid (Ba W137 b0 qb.gd qb.Ad qb.nd qb.cd qb.ys) := by rw [<- hW]; exact hI (Zn_126.out.aside Zd_127.out (by exact Dnd.out) _ _)
         have Zd_138 : Hid (Ba W137 b1 gs As ns cs xss) := by rw [<- hW]; exact hI (Zd_127.out.stored Jf2_134.out _)
         have Zm_139 : Hid (Ba W137 b2 qb.g qb.A qb.n qb.c qb.xs) := by rw [<- hW]; exact hI (Zm_128.out.aside Zd_127.out (by exact Dmd.out) _ _)
         have Zf_140 : Hid (Ba W137 b3 qb.gd qb.Ad qb.nd qb.cd qb.ys) := by rw [<- hW]; exact hI (Zf_129.out.aside Zd_127.out (by exact Dfd.out) _ _)
         have Zi_141 : Hid (Ba W137 b11 gi Ai ni ci xsi) := by rw [<- hW]; exact hI (Zi_130.out.aside Zd_127.out (by exact Did.out) _ _)
         have Xo_142 : Hid (Rb W137 ro RVal.nil) := by rw [<- hW]; exact hI (Xo_131.out.aside Zd_127.out (by exact Dod.out) _ _)
         have B_143 : Hid (Below r w W137) := by rw [<- hW]; exact hI (zA1 B_132.out (by exact Rd.out) _ _)
         have P_144 : Hid (zF3 W137 r v9 (L ++ [⟨gx, Ax, nx, cx, xsx⟩]) (ps ++ [qt])) := by rw [<- hW]; exact hI (P_133.out.ret Zd_127.out.bx (fun j hj => (NP.out j hj).2.1) _ _)
         have Jf3_145 : Hid (Sl W137 W137.heap.size qa.Ad qa.nd qa.cd qa.ys) := by rw [<- hW]; exact hI (Jf3_135.out.ret Zd_127.out.bx _ _)
         have Jf4_146 : Hid (Sl W137 W137.heap.size Ay ny cy xsy) := by rw [<- hW]; exact hI (Jf4_136.out.ret Zd_127.out.bx _ _)
         clear hW Zn_126 Zd_127 Zm_128 Zf_129 Zi_130 Xo_131 B_132 P_133 Jf3_135 Jf4_136 Jf2_134
         generalize hW : World.setCell (World.setCell W137 _ _) _ _ = W147
         have Zn_147 : Hid (Ba W147 b0 qb.gd qb.Ad qb.nd qb.cd qb.ys) := by rw [<- hW]; exact hI (Zn_137.out.aside Zm_139.out (by exact Dnm.out) _ _)
         have Zd_148 : Hid (Ba W147 b1 gs As ns cs xss) := by rw [<- hW]; exact hI (Zd_138.out.aside Zm_139.out (by exact Ddm.out) _ _)
         have Zm_149 : Hid (Ba W147 b2 qa.gd qa.Ad qa.nd qa.cd qa.ys) := by rw [<- hW]; exact hI (Zm_139.out.stored Jf3_145.out _)
         have Zf_150 : Hid (Ba W147 b3 qb.gd qb.Ad qb.nd qb.cd qb.ys) := by rw [<- hW]; exact hI (Zf_140.out.aside Zm_139.out (by exact Dfm.out) _ _)
         have Zi_151 : Hid (Ba W147 b11 gi Ai ni ci xsi) := by rw [<- hW]; exact hI (Zi_141.out.aside Zm_139.out (by exact Dim.out) _ _)
         have Xo_152 : Hid (Rb W147 ro RVal.nil) := by rw [<- hW]; exact hI (Xo_142.out.aside Zm_139.out (by exact Dom.out) _ _)
         have B_153 : Hid (Below r w W147) := by rw [<- hW]; exact hI (zA1 B_143.out (by exact Rm.out) _ _)
         have P_154 : Hid (zF3 W147 r v9 (L ++ [⟨gx, Ax, nx, cx, xsx⟩]) (ps ++ [qt])) := by rw [<- hW]; exact hI (P_144.out.ret Zm_139.out.bx (fun j hj => (NP.out j hj).2.2.1) _ _)
         have Jf4_155 : Hid (Sl W147 W147.heap.size Ay ny cy xsy) := by rw [<- hW]; exact hI (Jf4_146.out.ret Zm_139.out.bx _ _)
         clear hW Zn_137 Zd_138 Zm_139 Zf_140 Zi_141 Xo_142 B_143 P_144 Jf4_146 Jf3_145
         generalize hW : World.setCell (World.setCell W147 _ _) _ _ = W156
         have Zn_156 : Hid (Ba W156 b0 qb.gd qb.Ad qb.nd qb.cd qb.ys) := by rw [<- hW]; exact hI (Zn_147.out.aside Zf_150.out (by exact Dnf.out) _ _)
         have Zd_157 : Hid (Ba W156 b1 gs As ns cs xss) := by rw [<- hW]; exact hI (Zd_148.out.aside Zf_150.out (by exact Ddf.out) _ _)
         have Zm_158 : Hid (Ba W156 b2 qa.gd qa.Ad qa.nd qa.cd qa.ys) := by rw [<- hW]; exact hI (Zm_149.out.aside Zf_150.out (by exact Dmf.out) _ _)
         have Zf_159 : Hid (Ba W156 b3 gy Ay ny cy xsy) := by rw [<- hW]; exact hI (Zf_150.out.stored Jf4_155.out _)
         have Zi_160 : Hid (Ba W156 b11 gi Ai ni ci xsi) := by rw [<- hW]; exact hI (Zi_151.out.aside Zf_150.out (by exact Dif.out) _ _)
         have Xo_161 : Hid (Rb W156 ro RVal.nil) := by rw [<- hW]; exact hI (Xo_152.out.aside Zf_150.out (by exact Dof.out) _ _)
         have B_162 : Hid (Below r w W156) := by rw [<- hW]; exact hI (zA1 B_153.out (by exact Rf.out) _ _)
         have P_163 : Hid (zF3 W156 r v9 (L ++ [⟨gx, Ax, nx, cx, xsx⟩]) (ps ++ [qt])) := by rw [<- hW]; exact hI (P_154.out.ret Zf_150.out.bx (fun j hj => (NP.out j hj).2.2.2.1) _ _)
         clear hW Zn_147 Zd_148 Zm_149 Zf_150 Zi_151 Xo_152 B_153 P_154 Jf4_155
         generalize hWd : World.drew W156 = W10
         have RN2 : Hid (∃ rest, Run f (m - qt * f) d rs rest /\ PS = (ps ++ [qt]) ++ rest) := hI (by
          obtain ⟨rest, r1, r2⟩ := RN.out
          obtain ⟨t, e1, e2⟩ := run_next r1 (Int.not_lt.2 LT.out)
          rw [HQ.out.1] at e1 e2
          rw [HQ.out.2] at e2
          exact ⟨t, e2, by rw [r2, e1, List.append_assoc]; rfl⟩)
         have ST2 : Hid (Sta f (m - qt * f) d rs) := hI (by have k := ST.out.next; rw [HQ.out.1, HQ.out.2] at k; exact k)
         have FE2 : Hid (Few 8192 (n0 * f0) f (m - qt * f) rs (ps ++ [qt]).length) := hI (by have k := FE.out.next ST.out (Int.not_lt.2 LT.out) HPP.out; rw [HQ.out.1, HQ.out.2] at k; rw [List.length_append]; exact k)
         have Y3 : Hid (PosW w r ro b11 b0 b1 b2 b3 (n0 * f0) gi Ai ni ci xsi PS f (m - qt * f) d rs (⟨qb.gd, qb.Ad, qb.nd, qb.cd, qb.ys, gs, As, ns, cs, xss⟩ : RVal) (⟨qa.gd, qa.Ad, qa.nd, qa.cd, qa.ys, gy, Ay, ny, cy, xsy⟩ : RVal) v9 (L ++ [⟨gx, Ax, nx, cx, xsx⟩]) (ps ++ [qt]) W10) := by rw [<- hWd]; exact hI ⟨Zn_156.out.drewZ, Zd_157.out.drewZ, Zm_158.out.drewZ, Zf_159.out.drewZ, Zi_160.out.drewZ, Xo_161.out.drew, B_162.out.drew, Vf.out, Vs.out, Vd.out, Vy.out, P_163.out.drew, NP.out, ST2.out, FE2.out, RN2.out⟩
         clear hWd hC Zn_156 Zd_157 Zm_158 Zf_159 Zi_160 Xo_161 B_162 P_163
         go_roundg (m - qt * f + rs).toNat
         case measure => have a1 := HK.out; have a2 := Q1.out; have a3 := G1.out; have a4 := ST.out.d0; rw [HQ.out.1] at a3; omega
         case rel => exact ⟨_, _, _, _, _, _, _, _, _, rfl, rfl, Y3⟩
   . have EA : Hid (fitE (qt + 1) = 2) := hI ((zM8 (qt + 1)).elim (fun k => absurd k.2.2 big) id)
     have HB := show z = 0 /\ zd = 0 /\ er = 2 from by
      obtain ⟨rest, r1, r2⟩ := RN.out
      exact HI.out.2.2.bad (part_big ST.out BD.out.2.1 r1 HI.out.2.1 HI.out.1 r2 (by rw [HQ.out.1]; exact big))
     clear big
     obtain ⟨rfl, rfl, rfl⟩ := HB
     obtain ⟨kx0, kx1⟩ := Zx_29.out.cs
     have lx := Zx_29.out.bx.lt
     obtain ⟨ki0, ki1⟩ := Zi_25.out.cs
     have li := Zi_25.out.bx.lt
     go_wp2_with fail
     have C := radd_z Zx_29.out.sl Zi_25.out.sl Vx.out Vi.out
     rw [EA.out] at C
     refine C.mono ?_
     clear C
     clear kx0 kx1 lx ki0 ki1 li
     rintro e w31 ⟨ge, Ae, ne, ce, xse, rfl, hs, ho, hb⟩
     have Zn_31 := hI (Zn_21.out.on hb)
     have Zd_32 := hI (Zd_22.out.on hb)
     have Zm_33 := hI (Zm_23.out.on hb)
     have Zf_34 := hI (Zf_24.out.on hb)
     have Zi_35 := hI (Zi_25.out.on hb)
     have Xo_36 := hI (Xo_26.out.on hb)
     have B_37 := hI (bch B_27.out HRr.out hb)
     have P_38 := hI (P_28.out.on hb)
     have Zx_39 := hI (Zx_29.out.on hb)
     have Zy_40 := hI (Zy_30.out.on hb)
     have Je_41 : Hid (Sl w31 w31.heap.size Ae ne ce xse) := hI hs
     clear hb Zn_21 Zd_22 Zm_23 Zf_24 Zi_25 Xo_26 B_27 P_28 Zx_29 Zy_30 hs
     have Ve := hI ho
     clear ho
     clear Zn_31 Zd_32 Zm_33 Zf_34 Zi_35 P_38 Zx_39 Zy_40 Je_41
     obtain ⟨ko0, ko1, ko2, ko3⟩ := Xo_36.out.cs
     obtain ⟨fo0, fo1, fo2, fo3⟩ := Xo_36.out.fs
     simp only [RVal.nil] at ko0 ko1 ko2 ko3
     have lo := Xo_36.out.lt
     go_wp2
     clear ko0 ko1 ko2 ko3 fo0 fo1 fo2 fo3 lo
     generalize hW : World.setCell (World.setCell (World.setCell (World.setCell w31 _ _) _ _) _ _) _ _ = W42
     have Xo_42 : Hid (Rb W42 ro RVal.nil) := by rw [<- hW]; exact hI (Rb.put (q' := RVal.nil) Xo_36.out (RVal.nil_in w31))
     have B_43 : Hid (Below r w W42) := by rw [<- hW]; exact hI (zA5 B_37.out (by exact Ro.out) _ _ _ _)
     clear hW Xo_36 B_37
     generalize hW : World.alloc W42 _ = W44
     have hn := zA0 W42 (.cells #[.bool ge, .slice Ae ne ce] 24)
     rw [hW] at hn
     have Xo_44 := hI (Xo_42.out.on hn)
     have B_45 := hI (bch B_43.out HRr.out hn)
     clear hn hW Xo_42 B_43
     obtain ⟨j0, j1, j2, j3⟩ := Xo_44.out.cs
     try dsimp only at j0 j1 j2 j3
     simp only [RVal.nil] at j0 j1 j2 j3
     refine bodyPost_ret (v := .tuple #[.agg #[.bool false, .slice none 0 0, .bool false, .slice none 0 0], .int .i64 2]) (by simp [results, Tryz.results25, go_sem, j0, j1, j2, j3]) rfl ?_
     exact RetR.of Xo_44.out rfl rfl (by rw [HRr.out]; exact B_45.out)
 case rest =>
  obtain ⟨L, v, hv, hlen, hP, h1, h2, hb, np⟩ := hcut
  replace hv := hv.symm
  subst hv
  obtain ⟨K, hK⟩ : ∃ K, PS.length = K + 1 := by
   have := run_some HI.out.2.1
   cases PS with
   | nil => exact absurd rfl this
   | cons a t => exact ⟨t.length, rfl⟩
  obtain ⟨g, cap, e0, hv, c0, c1, hs, ho, hcap⟩ := hP.at_ (k := K) (by omega)
  rw [hK] at hv hcap
  subst hv
  have Zi_0 := hI h1
  have Xo_0 := hI h2
  have B_0 := hI hb
  have P_0 := hI hP
  have NP := hI np
  have HKK := hI hK
  have S0 := hI hs
  have V0 := hI ho
  have HCP := hI hcap
  have HL := hI (show K < 10000 by omega)
  clear h1 h2 hb hP np hs ho hcap hlen
  obtain ⟨we, rfl⟩ : ∃ u : World, u = wc := ⟨_, rfl⟩
  obtain ⟨ki0, ki1⟩ := Zi_0.out.cs
  have li := Zi_0.out.bx.lt
  have kw2 : IntKind.i64.wrap (K : Int) = K := Go.IntWalk.i64_in _ (by have := HL.out; omega)
  have kw : wrap64 (K : Int) = K := (Go.IntWalk.i64_left _).symm.trans kw2
  have ng := World.new_ne _ _ c0
  have ng2 : g ≠ we.heap.size := Nat.ne_of_lt (P_0.out.lt g rfl)
  have ng3 := ng2.symm
  have c0n : (we.alloc (.cells #[.bool false, .slice none 0 0, .bool false, .slice none 0 0] 26)).cell? ⟨g, K * 2, none⟩ = _ := (World.cell?_alloc_lt _ _ _ (P_0.out.lt g rfl)).trans c0
  have c1n : (we.alloc (.cells #[.bool false, .slice none 0 0, .bool false, .slice none 0 0] 26)).cell? ⟨g, K * 2 + 1, none⟩ = _ := (World.cell?_alloc_lt _ _ _ (P_0.out.lt g rfl)).trans c1
  have kx : (0 : Int) <= (K : Int) := Int.natCast_nonneg K
  have ky : (K : Int) < (K : Int) + 1 := by omega
  have kz : (K : Int).toNat = K := Int.toNat_natCast K
  go_upto_region 18 with fail
  go_region
  clear kw kw2 kx ky kz ng ng2 ng3 c0 c1 c0n c1n
  clear ki0 ki1 li
  have Je_0 : Hid (Sl we we.heap.size e0.A e0.n e0.c e0.xs) := hI S0.out
  have Iq_1 : Hid ((⟨e0.g, e0.A, e0.n, e0.c, e0.xs, gi, Ai, ni, ci, xsi⟩ : RVal).In we) := hI ⟨Je_0.out, Zi_0.out.sl⟩
  clear Je_0
  have hq : ∀ j, (Value.slice (some ⟨g, 0, none⟩) (K + 1) cap).ownBlock = some j -> j < we.heap.size := P_0.out.lt
  have hq2 : ro < we.heap.size := Xo_0.out.lt
  have hq3 : r <= we.heap.size := by have := B_0.out.size; have := HRr.out; omega
  generalize hW : World.alloc we _ = W2
  have hn := zA0 we (.cells #[.bool e0.g, .slice e0.A e0.n e0.c, .bool gi, .slice Ai ni ci] 26)
  rw [hW] at hn
  have hx : Rb W2 we.heap.size (⟨e0.g, e0.A, e0.n, e0.c, e0.xs, gi, Ai, ni, ci, xsi⟩ : RVal) := by rw [<- hW]; exact Rb.new (q := (⟨e0.g, e0.A, e0.n, e0.c, e0.xs, gi, Ai, ni, ci, xsi⟩ : RVal)) Iq_1.out
  have hlt : b11 < we.heap.size := Zi_0.out.bx.lt
  have Zi_2 := hI (Zi_0.out.on hn)
  have Xo_3 := hI (Xo_0.out.on hn)
  have B_4 := hI (bch B_0.out HRr.out hn)
  have P_5 := hI (P_0.out.on hn)
  generalize hbb : we.heap.size = b31 at *
  clear hbb
  have Xx_6 : Hid (Rb W2 b31 (⟨e0.g, e0.A, e0.n, e0.c, e0.xs, gi, Ai, ni, ci, xsi⟩ : RVal)) := hI hx
  have O6 := hI hlt
  clear hn hx hW hlt Zi_0 Xo_0 B_0 P_0 Iq_1
  have NPX : Hid (∀ j, (Value.slice (some ⟨g, 0, none⟩) (K + 1) cap).ownBlock = some j -> j ≠ b31 /\ j ≠ ro) := hI (fun j hj => ⟨Nat.ne_of_lt (hq j hj), (NP.out j hj).2⟩)
  have Dox : Hid (ro ≠ b31) := hI (Nat.ne_of_lt hq2)
  have Dxo : Hid (b31 ≠ ro) := hI (Nat.ne_of_lt hq2).symm
  have Rx : Hid (r <= b31) := hI hq3
  have Ro : Hid (r <= ro) := hI (by have := NE.out.1; omega)
  clear hq hq2 hq3
  have X0 : Hid (PosX w r ro b31 g (K + 1) cap PS K (⟨e0.g, e0.A, e0.n, e0.c, e0.xs, gi, Ai, ni, ci, xsi⟩ : RVal) L W2.drew) := hI ⟨Xx_6.out.drew, Xo_3.out.drew, B_4.out.drew, P_5.out.drew, by rw [fv_drop (show K < PS.length by have := HKK.out; omega), List.drop_eq_nil_of_le (show PS.length <= K + 1 by have := HKK.out; omega)]; show ov e0.g e0.xs = some (PS.getD K 0 * 1 + 0); rw [V0.out]; congr 1; omega, by rw [fv_drop (show K < PS.length by have := HKK.out; omega), List.drop_eq_nil_of_le (show PS.length <= K + 1 by have := HKK.out; omega)]; exact Vi.out⟩
  clear Zi_2 Xo_3 B_4 P_5 Xx_6 NP S0 V0
  generalize W2.drew = wf at *
  have KW := hI (show wrap64 ((K : Int) + 1 - 2) = (K : Int) - 1 from (Go.IntWalk.i64_left _).symm.trans ((Go.IntWalk.i64_in _ (by have := HL.out; omega)).trans (by omega)))
  go_wp2_with fail
  go_loopg [22] K (fun gg s22 wr => ∃ (j : Nat) (qx : RVal), s22 = .int .i64 ((j : Int) - 1) /\ j = gg /\ j <= K /\ Hid (PosX w r ro b31 g (K + 1) cap PS j qx L wr))
  case atStart => exact ⟨K, _, by rw [KW.out], rfl, Nat.le_refl _, X0⟩
  case round =>
   obtain ⟨j, qx, rfl, hgg, hj, HX⟩ := hrel
   subst hgg
   have HJ := hI hj
   clear hj X0
   by_cases hj0 : j = 0
   . have Xx_0 := hI HX.out.xx
     have Xo_0 := hI HX.out.xo
     have B_0 := hI HX.out.bel
     have P_0 := hI HX.out.pt
     have OX := hI HX.out.o
     have ODX := hI HX.out.od
     clear HX
     subst hj0
     have t0 : decide ((0 : Int) <= ((0 : Nat) : Int) - 1) = false := by decide
     have HE := show z = (fv PS).1 /\ zd = (fv PS).2 /\ er = 0 from HI.out.2.2.elim (fun h => h.2) (fun h => absurd ⟨zE7 Xx_0.out.sl.1.ok OX.out, zE7 Xx_0.out.sl.2.ok ODX.out⟩ h.1)
     obtain ⟨rfl, rfl, rfl⟩ := HE
     obtain ⟨kx0, kx1, kx2, kx3⟩ := Xx_0.out.cs
     have lx := Xx_0.out.lt
     obtain ⟨ko0, ko1, ko2, ko3⟩ := Xo_0.out.cs
     obtain ⟨fo0, fo1, fo2, fo3⟩ := Xo_0.out.fs
     simp only [RVal.nil] at ko0 ko1 ko2 ko3
     have lo := Xo_0.out.lt
     have d1 := Dxo.out
     have d2 := Dox.out
     go_wp2_with fail
     clear kx0 kx1 kx2 kx3 lx ko0 ko1 ko2 ko3 fo0 fo1 fo2 fo3 lo
     clear t0 d1 d2
     have If_0 : Hid (RVal.In qx wr) := hI Xx_0.out.sl
     clear Xx_0 P_0
     generalize hW : World.setCell (World.setCell (World.setCell (World.setCell wr _ _) _ _) _ _) _ _ = W1
     have Xo_1 : Hid (Rb W1 ro qx) := by rw [<- hW]; exact hI (Rb.put (q' := qx) Xo_0.out If_0.out)
     have B_2 : Hid (Below r w W1) := by rw [<- hW]; exact hI (zA5 B_0.out (by exact Ro.out) _ _ _ _)
     clear hW Xo_0 B_0 If_0
     obtain ⟨j0, j1, j2, j3⟩ := Xo_1.out.cs
     try dsimp only at j0 j1 j2 j3
     refine bodyPost_ret (v := .tuple #[.agg #[.bool qx.g, .slice qx.A qx.n qx.c, .bool qx.gd, .slice qx.Ad qx.nd qx.cd], .int .i64 0]) (by simp [results, Tryz.results25, go_sem, j0, j1, j2, j3]) rfl ?_
     exact RetR.of Xo_1.out OX.out ODX.out (by rw [HRr.out]; exact B_2.out)
   . have Xx_0 := hI HX.out.xx
     have Xo_0 := hI HX.out.xo
     have B_0 := hI HX.out.bel
     have P_0 := hI HX.out.pt
     have OX := hI HX.out.o
     have ODX := hI HX.out.od
     clear HX
     obtain ⟨i, rfl⟩ : ∃ i, j = i + 1 := ⟨j - 1, by omega⟩
     clear hj0
     have hw : ((i + 1 : Nat) : Int) - 1 = (i : Int) := by omega
     rw [hw]
     clear hw
     have t0 : decide ((0 : Int) <= (i : Int)) = true := decide_eq_true (Int.natCast_nonneg i)
     have HI2 := hI (show i < PS.length by have := HKK.out; have := HJ.out; omega)
     obtain ⟨y0, hy0, hy1, hys, hyo⟩ := P_0.out.get HI2.out
     have YS := hI hys
     have YO := hI hyo
     clear hys hyo
     obtain ⟨pj, hpj⟩ : ∃ u, PS.getD i 0 = u := ⟨_, rfl⟩
     obtain ⟨N, hN⟩ : ∃ u, (fv (PS.drop (i + 1))).1 = u := ⟨_, rfl⟩
     obtain ⟨D, hD⟩ : ∃ u, (fv (PS.drop (i + 1))).2 = u := ⟨_, rfl⟩
     have FD := hI (show fv (PS.drop i) = (pj * N + D, N) by rw [fv_drop HI2.out, hpj, hN, hD])
     have PD := hI (show 0 <= pj /\ 0 < N /\ 0 <= D by have k := drop_pos HI.out.2.1 HI.out.1 HI2.out; rw [hpj, hN, hD] at k; exact k)
     have VY := hI (show ov y0.g y0.xs = some pj by rw [YO.out, hpj])
     have VN := hI (show ov qx.g qx.xs = some N by have k := OX.out; rw [hN] at k; exact k)
     have VD := hI (show ov qx.gd qx.ys = some D by have k := ODX.out; rw [hD] at k; exact k)
     clear YO OX ODX hpj hN hD
     obtain ⟨zz, hzz⟩ : ∃ u, fitZ (pj * N) = u := ⟨_, rfl⟩
     obtain ⟨ee, hee⟩ : ∃ u, fitE (pj * N) = u := ⟨_, rfl⟩
     have ZE := hI (And.intro hzz hee)
     clear hzz hee
     go_upto_region 22 with fail
     clear t0
     go_cut [23, 24] (fun s23 s24 wx => ZMid wr.heap.size wr.drew zz ee s23 s24 wx)
     case first =>
      have iw2 : IntKind.i64.wrap (i : Int) = i := Go.IntWalk.i64_in _ (by have := HL.out; have := HJ.out; omega)
      have iw : wrap64 (i : Int) = i := (Go.IntWalk.i64_left _).symm.trans iw2
      have ix : (0 : Int) <= (i : Int) := Int.natCast_nonneg i
      have iy : (i : Int) < (K : Int) + 1 := by have := HJ.out; omega
      have iz : (i : Int).toNat = i := Int.toNat_natCast i
      have ng := P_0.out.lt g rfl
      have nx := Xx_0.out.lt
      obtain ⟨kx0, kx1, kx2, kx3⟩ := Xx_0.out.cs
      have ng2 : g ≠ wr.heap.size := Nat.ne_of_lt ng
      have ng3 := ng2.symm
      have nx2 : b31 ≠ wr.heap.size := Nat.ne_of_lt nx
      have nx3 := nx2.symm
      have D0 : Hid (Below wr.heap.size wr.drew wr.drew) := hI (Below.refl _ _)
      have C := hI (fun (v : World) (s1 : Sl v v.heap.size y0.A y0.n y0.c y0.xs) (s2 : Sl v v.heap.size qx.A qx.n qx.c qx.xs) => (by have k := rmul_z s1 s2 VY.out VN.out; rw [ZE.out.1, ZE.out.2] at k; exact k : Calls Tryz.prog 52 #[.agg #[.bool y0.g, .slice y0.A y0.n y0.c], .agg #[.bool qx.g, .slice qx.A qx.n qx.c]] v (RetZE zz ee v)))
      have SA : ∀ o : Obj, (wr.drew.alloc o).cell? ⟨g, i * 2, none⟩ = some (.bool y0.g) /\ (wr.drew.alloc o).cell? ⟨g, i * 2 + 1, none⟩ = some (.slice y0.A y0.n y0.c) /\ (wr.drew.alloc o).cell? ⟨b31, 0, none⟩ = some (.bool qx.g) /\ (wr.drew.alloc o).cell? ⟨b31, 1, none⟩ = some (.slice qx.A qx.n qx.c) := fun o => ⟨(World.cell?_alloc_lt _ _ _ ng).trans hy0, (World.cell?_alloc_lt _ _ _ ng).trans hy1, (World.cell?_alloc_lt _ _ _ nx).trans kx0, (World.cell?_alloc_lt _ _ _ nx).trans kx1⟩
      go_region_held3 (fun w' => w'.cell? ⟨g, i * 2, none⟩ = some (.bool y0.g) /\ w'.cell? ⟨g, i * 2 + 1, none⟩ = some (.slice y0.A y0.n y0.c) /\ w'.cell? ⟨b31, 0, none⟩ = some (.bool qx.g) /\ w'.cell? ⟨b31, 1, none⟩ = some (.slice qx.A qx.n qx.c)) (first | exact ⟨hy0, hy1, kx0, kx1⟩ | exact SA _ | exact ⟨f0, f1, f2, f3⟩ | go_keep)
       (first
        | (go_at_call 52; (first | (refine (C.out _ YS.out.drew Xx_0.out.sl.1.drew).mono ?_; rintro e v1 ⟨g9, A9, n9, c9, xs9, rfl, hs9, ho9, hbn⟩; have D1 := hI (zA D0.out D0.out.size hbn); have S9 := hI hs9; have O9 := hI ho9; clear hs9 ho9 hbn; have f0 := (D1.out.cell (p := ⟨g, i * 2, none⟩) ng).trans hy0; have f1 := (D1.out.cell (p := ⟨g, i * 2 + 1, none⟩) ng).trans hy1; have f2 := (D1.out.cell (p := ⟨b31, 0, none⟩) nx).trans kx0; have f3 := (D1.out.cell (p := ⟨b31, 1, none⟩) nx).trans kx1; have m0 := World.new_ne _ _ f0; have m2 := World.new_ne _ _ f2; clear hy0 hy1 kx0 kx1) | (refine (C.out (wr.alloc (.cells #[.bool false, .slice none 0 0] 24)).drew (YS.out.on (zA0 _ _)).drew (Xx_0.out.sl.1.on (zA0 _ _)).drew).mono ?_; rintro e v1 ⟨g9, A9, n9, c9, xs9, rfl, hs9, ho9, hbm⟩; have hbn : Below (wr.alloc (.cells #[.bool false, .slice none 0 0] 24)).heap.size (wr.alloc (.cells #[.bool false, .slice none 0 0] 24)) v1 := ⟨hbm.os, hbm.tape, hbm.output, hbm.size, hbm.block⟩; have bn : Bx v1 wr.heap.size false none 0 0 := (Bx.new wr false none 0 0).below hbn (by simp); have hw2 : Below wr.heap.size wr.drew (wr.alloc (.cells #[.bool false, .slice none 0 0] 24)) := ⟨rfl, rfl, rfl, by simp, fun k hk => Below.heap_alloc _ _ _ hk⟩; have D1 := hI (zA hw2 (zA0 wr (.cells #[.bool false, .slice none 0 0] 24)).size hbn); have t0 := bn.c0; have t1 := bn.c1; have u0f := bn.f 0; have u1f := bn.f 1; have bb := hI bn; have S9 := hI hs9; have O9 := hI ho9; clear hs9 ho9 hbn hbm bn hw2; have f0 := (D1.out.cell (p := ⟨g, i * 2, none⟩) ng).trans hy0; have f1 := (D1.out.cell (p := ⟨g, i * 2 + 1, none⟩) ng).trans hy1; have f2 := (D1.out.cell (p := ⟨b31, 0, none⟩) nx).trans kx0; have f3 := (D1.out.cell (p := ⟨b31, 1, none⟩) nx).trans kx1; have m0 := World.new_ne _ _ f0; have m2 := World.new_ne _ _ f2; clear hy0 hy1 kx0 kx1))))
      all_goals (go_wp2_with fail; go_meet; first
       | exact zMid_new D1.out D1.out.size S9.out O9.out
       | exact zMid_old bb.out D1.out (Nat.le_refl _) S9.out O9.out)
     case rest =>
     obtain ⟨bm, gm, Am, nm, cm, xsm, rfl, rfl, hm, hmo, hmb⟩ := hcut
     clear hy0 hy1
     have Xx_1 := hI (Xx_0.out.drew)
     have Xo_2 := hI (Xo_0.out.drew)
     have B_3 := hI (B_0.out.drew)
     have P_4 := hI (P_0.out.drew)
     have Xx_5 := hI (Xx_1.out.on hmb)
     have Xo_6 := hI (Xo_2.out.on hmb)
     have B_7 := hI (bch B_3.out HRr.out hmb)
     have P_8 := hI (P_4.out.on hmb)
     have Zm_0 := hI hm
     have Vm := hI hmo
     clear hm hmo hmb YS Xx_0 Xo_0 B_0 P_0 Xx_1 Xo_2 B_3 P_4
     obtain ⟨wg, rfl⟩ : ∃ u : World, u = wc := ⟨_, rfl⟩
     by_cases h0 : ee = 0
     . subst h0
       have hz : zz = pj * N := (zM8 (pj * N)).elim (fun k => ZE.out.1.symm.trans k.2.1) (fun k => absurd (ZE.out.2.symm.trans k) (by decide))
       subst hz
       by_cases h1 : (pj * N + D).natAbs < BIG
       . have EA := hI (zB1 h1)
         clear h1
         obtain ⟨km0, km1⟩ := Zm_0.out.cs
         have lm := Zm_0.out.bx.lt
         obtain ⟨kx0, kx1, kx2, kx3⟩ := Xx_5.out.cs
         have lx := Xx_5.out.lt
         go_wp2_with fail
         have C := radd_z Zm_0.out.sl Xx_5.out.sl.2 Vm.out VD.out
         rw [EA.out.1, EA.out.2] at C
         refine C.mono ?_
         clear C
         clear km0 km1 lm kx0 kx1 kx2 kx3 lx
         rintro e w9 ⟨ge, Ae, ne, ce, xse, rfl, hs, ho, hb⟩
         have Xx_9 := hI (Xx_5.out.on hb)
         have Xo_10 := hI (Xo_6.out.on hb)
         have B_11 := hI (bch B_7.out HRr.out hb)
         have P_12 := hI (P_8.out.on hb)
         have Zm_13 := hI (Zm_0.out.on hb)
         have Je_14 : Hid (Sl w9 w9.heap.size Ae ne ce xse) := hI hs
         clear hb Xx_5 Xo_6 B_7 P_8 Zm_0 hs
         have Ve := hI ho
         clear ho
         clear Zm_13
         go_upto_region 26 with fail
         have hq2 : b31 < w9.heap.size /\ ro < w9.heap.size := ⟨Xx_9.out.lt, Xo_10.out.lt⟩
         generalize hW : World.alloc w9 _ = W15
         have hn := zA0 w9 (.cells #[.bool ge, .slice Ae ne ce] 24)
         rw [hW] at hn
         have hx : Ba W15 w9.heap.size ge Ae ne ce xse := by rw [<- hW]; exact ⟨Bx.new w9 _ _ _ _, Je_14.out.on (zA0 _ _)⟩
         have hlt : b31 < w9.heap.size := Xx_9.out.lt
         have Xx_15 := hI (Xx_9.out.on hn)
         have Xo_16 := hI (Xo_10.out.on hn)
         have B_17 := hI (bch B_11.out HRr.out hn)
         have P_18 := hI (P_12.out.on hn)
         generalize hbb : w9.heap.size = b41 at *
         clear hbb
         have Zy_19 : Hid (Ba W15 b41 ge Ae ne ce xse) := hI hx
         have O19 := hI hlt
         clear hn hx hW hlt Xx_9 Xo_10 B_11 P_12 Je_14
         have Gy := hI hq2
         clear hq2
         obtain ⟨ky0, ky1⟩ := Zy_19.out.cs
         have ly := Zy_19.out.bx.lt
         obtain ⟨kx0, kx1, kx2, kx3⟩ := Xx_15.out.cs
         obtain ⟨fx0, fx1, fx2, fx3⟩ := Xx_15.out.fs
         have lx := Xx_15.out.lt
         have d1 := Nat.ne_of_lt Gy.out.1
         have d2 := d1.symm
         go_upto_region 21 with fail
         clear ky0 ky1 ly kx0 kx1 kx2 kx3 fx0 fx1 fx2 fx3 lx
         clear d1 d2
         have Ju_0 : Hid (Sl W15 W15.heap.size qx.A qx.n qx.c qx.xs) := hI Xx_15.out.sl.1
         have Iq2_20 : Hid ((⟨ge, Ae, ne, ce, xse, qx.g, qx.A, qx.n, qx.c, qx.xs⟩ : RVal).In W15) := hI ⟨Zy_19.out.sl, Ju_0.out⟩
         clear Zy_19 Ju_0
         generalize hW : World.setCell (World.setCell (World.setCell (World.setCell W15 _ _) _ _) _ _) _ _ = W21
         have Xx_21 : Hid (Rb W21 b31 (⟨ge, Ae, ne, ce, xse, qx.g, qx.A, qx.n, qx.c, qx.xs⟩ : RVal)) := by rw [<- hW]; exact hI (Rb.put (q' := (⟨ge, Ae, ne, ce, xse, qx.g, qx.A, qx.n, qx.c, qx.xs⟩ : RVal)) Xx_15.out Iq2_20.out)
         have Xo_22 : Hid (Rb W21 ro RVal.nil) := by rw [<- hW]; exact hI (Xo_16.out.pass Xx_15.out (by exact Dox.out) _ _ _ _)
         have B_23 : Hid (Below r w W21) := by rw [<- hW]; exact hI (zA5 B_17.out (by exact Rx.out) _ _ _ _)
         have P_24 : Hid (zF3 W21 r (Value.slice (some ⟨g, 0, none⟩) (K + 1) cap) L PS) := by rw [<- hW]; exact hI (P_18.out.put4 Xx_15.out (fun i hi => (NPX.out i hi).1) _ _ _ _)
         clear hW Xx_15 Xo_16 B_17 P_18 Iq2_20
         have Y3 : Hid (PosX w r ro b31 g (K + 1) cap PS i (⟨ge, Ae, ne, ce, xse, qx.g, qx.A, qx.n, qx.c, qx.xs⟩ : RVal) L W21) := hI ⟨Xx_21.out, Xo_22.out, B_23.out, P_24.out, by rw [FD.out]; exact Ve.out, by rw [FD.out]; exact VN.out⟩
         clear Xx_21 Xo_22 B_23 P_24
         go_wp2_with fail
         go_roundg i
         case measure => omega
         case rel => exact ⟨i, _, by rw [(Go.IntWalk.i64_left _).symm.trans (Go.IntWalk.i64_in ((i : Int) - 1) (by have := HL.out; have := HJ.out; omega))], rfl, by have := HJ.out; omega, Y3⟩
       . have EA : Hid (fitE (pj * N + D) = 2) := hI ((zM8 (pj * N + D)).elim (fun k => absurd k.2.2 h1) id)
         have HB := drop_big HI.out.2.1 HI.out.1 HI.out.2.2 HI2.out (by rw [FD.out]; exact h1)
         obtain ⟨rfl, rfl, rfl⟩ := HB
         clear h1
         obtain ⟨km0, km1⟩ := Zm_0.out.cs
         have lm := Zm_0.out.bx.lt
         obtain ⟨kx0, kx1, kx2, kx3⟩ := Xx_5.out.cs
         have lx := Xx_5.out.lt
         go_wp2_with fail
         have C := radd_z Zm_0.out.sl Xx_5.out.sl.2 Vm.out VD.out
         rw [EA.out] at C
         refine C.mono ?_
         clear C
         clear km0 km1 lm kx0 kx1 kx2 kx3 lx
         rintro e w9 ⟨ge, Ae, ne, ce, xse, rfl, hs, ho, hb⟩
         have Xx_9 := hI (Xx_5.out.on hb)
         have Xo_10 := hI (Xo_6.out.on hb)
         have B_11 := hI (bch B_7.out HRr.out hb)
         have P_12 := hI (P_8.out.on hb)
         have Zm_13 := hI (Zm_0.out.on hb)
         have Je_14 : Hid (Sl w9 w9.heap.size Ae ne ce xse) := hI hs
         clear hb Xx_5 Xo_6 B_7 P_8 Zm_0 hs
         have Ve := hI ho
         clear ho
         clear Xx_9 P_12 Zm_13 Je_14
         obtain ⟨ko0, ko1, ko2, ko3⟩ := Xo_10.out.cs
         obtain ⟨fo0, fo1, fo2, fo3⟩ := Xo_10.out.fs
         simp only [RVal.nil] at ko0 ko1 ko2 ko3
         have lo := Xo_10.out.lt
         go_wp2
         clear ko0 ko1 ko2 ko3 fo0 fo1 fo2 fo3 lo
         generalize hW : World.setCell (World.setCell (World.setCell (World.setCell w9 _ _) _ _) _ _) _ _ = W15
         have Xo_15 : Hid (Rb W15 ro RVal.nil) := by rw [<- hW]; exact hI (Rb.put (q' := RVal.nil) Xo_10.out (RVal.nil_in w9))
         have B_16 : Hid (Below r w W15) := by rw [<- hW]; exact hI (zA5 B_11.out (by exact Ro.out) _ _ _ _)
         clear hW Xo_10 B_11
         generalize hW : World.alloc W15 _ = W17
         have hn := zA0 W15 (.cells #[.bool ge, .slice Ae ne ce] 24)
         rw [hW] at hn
         have Xo_17 := hI (Xo_15.out.on hn)
         have B_18 := hI (bch B_16.out HRr.out hn)
         clear hn hW Xo_15 B_16
         obtain ⟨j0, j1, j2, j3⟩ := Xo_17.out.cs
         try dsimp only at j0 j1 j2 j3
         simp only [RVal.nil] at j0 j1 j2 j3
         refine bodyPost_ret (v := .tuple #[.agg #[.bool false, .slice none 0 0, .bool false, .slice none 0 0], .int .i64 2]) (by simp [results, Tryz.results25, go_sem, j0, j1, j2, j3]) rfl ?_
         exact RetR.of Xo_17.out rfl rfl (by rw [HRr.out]; exact B_18.out)
     . have h2 : ee = 2 := (zM8 (pj * N)).elim (fun k => absurd (ZE.out.2.symm.trans k.1) h0) (fun k => ZE.out.2.symm.trans k)
       subst h2
       have HB := drop_big HI.out.2.1 HI.out.1 HI.out.2.2 HI2.out (by rw [FD.out]; intro k; have a := PD.out; have b2 := Int.mul_nonneg a.1 (Int.le_of_lt a.2.1); have := (zB1 (z := pj * N) (by have k2 : (pj * N + D).natAbs < BIG := k; omega)).2; rw [ZE.out.2] at this; omega)
       obtain ⟨rfl, rfl, rfl⟩ := HB
       clear h0
       clear Xx_5 P_8 Zm_0
       obtain ⟨ko0, ko1, ko2, ko3⟩ := Xo_6.out.cs
       obtain ⟨fo0, fo1, fo2, fo3⟩ := Xo_6.out.fs
       simp only [RVal.nil] at ko0 ko1 ko2 ko3
       have lo := Xo_6.out.lt
       go_wp2
       clear ko0 ko1 ko2 ko3 fo0 fo1 fo2 fo3 lo
       generalize hW : World.setCell (World.setCell (World.setCell (World.setCell wg _ _) _ _) _ _) _ _ = W9
       have Xo_9 : Hid (Rb W9 ro RVal.nil) := by rw [<- hW]; exact hI (Rb.put (q' := RVal.nil) Xo_6.out (RVal.nil_in wg))
       have B_10 : Hid (Below r w W9) := by rw [<- hW]; exact hI (zA5 B_7.out (by exact Ro.out) _ _ _ _)
       clear hW Xo_6 B_7
       obtain ⟨j0, j1, j2, j3⟩ := Xo_9.out.cs
       try dsimp only at j0 j1 j2 j3
       simp only [RVal.nil] at j0 j1 j2 j3
       refine bodyPost_ret (v := .tuple #[.agg #[.bool false, .slice none 0 0, .bool false, .slice none 0 0], .int .i64 2]) (by simp [results, Tryz.results25, go_sem, j0, j1, j2, j3]) rfl ?_
       exact RetR.of Xo_9.out rfl rfl (by rw [HRr.out]; exact B_10.out)
end Go.Proofs.YtphinlongdoedaaGreat
