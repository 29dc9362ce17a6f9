/-
 Stage 2: Parse of the rationals. Stage 2: Cmp of the rationals, where the products are not too big. Stage 2: the convergent that follows two others. Stage 2: the continued fraction's expansion, over a known course. Stage 2: Simplest, where the lower number is not negative. Stage 2: the continued fraction's expansion, over a known course, where the last convergent is too big. Stage 2: Simplest between a third and a half, a course of the expansion known. Stage 2: the expansion of the continued fraction, for any two ends: its course, what it hands back, that this is the least. Stage 2: the compar
-/
import Derived.Lib.CutLaws
import Derived.BigQuiet
import Derived.Deep.QuietTactic
import Derived.Deep.DeepCutAuto
import Derived.Deep.RegionHeld3
import Derived.Deep.LoopGhost
import Derived.Test.YtmncfbfepdbioaaGreatDoorRatL
import Derived.Test.YtmncfbfepdbioaaGreatDoorLate
import Derived.Test.YtmncfbfepdbioaaGreatDoorPolQ
import Derived.Test.YtmncfbfepdbioaaGreatDoorBaseP
namespace Go.Proofs.YtmncfbfepdbioaaGreatDoor
open Go.RowKit
end Go.Proofs.YtmncfbfepdbioaaGreatDoor
namespace Go.Proofs.YtmncfbfepdbioaaGreatDoor
open Go.RowKit
section
variable {w v : World} {p a b n1 c1 n2 c2 : Nat} {z1 z2 f : Int} {g1 g2 : Bool} {A1 A2 : Option Addr} {xs1 xs2 : List Nat}
end
end Go.Proofs.YtmncfbfepdbioaaGreatDoor
namespace Go.Proofs.YtmncfbfepdbioaaGreatDoor
open Go.RowKit
theorem Kp.put {w w' : World} {p r : Nat} {f : Int} {q : RVal} (h : Kp w w' p f) (hr : Rb w' r q) (hs : w.heap.size <= r) (hp : p < w.heap.size) (a : Bool) (b : Value) (c : Bool) (d : Value) : Kp w (put4 w' r a b c d) p f := by
 refine ⟨fun A n c xs s => (h.sl A n c xs s).put4 hr.bx _ _ _ _, fun g t cs hg k => ?_, ?_, fun B a k h1 h2 => below_put4 (h.bel B a k h1 h2) (by omega) _ _ _ _, by rw [put4_size]; exact h.size⟩
 . have hlt := Blk.lt k
   have hne : g ≠ r := by omega
   exact Blk.far (Blk.far (Blk.far (Blk.far (h.blk g t cs hg k) (p := ⟨r, 0, none⟩) hne _) (p := ⟨r, 1, none⟩) hne _) (p := ⟨r, 2, none⟩) hne _) (p := ⟨r, 3, none⟩) hne _
 . have hne : p ≠ r := by omega
   exact Blk.far (Blk.far (Blk.far (Blk.far h.cl (p := ⟨r, 0, none⟩) hne _) (p := ⟨r, 1, none⟩) hne _) (p := ⟨r, 2, none⟩) hne _) (p := ⟨r, 3, none⟩) hne _
end Go.Proofs.YtmncfbfepdbioaaGreatDoor
namespace Go.Proofs.YtmncfbfepdbioaaGreatDoor
open Go.RowKit
structure Ex where
 n : Int
 d : Int
 m : Int
 f : Int
 p : Int
 q : Int
 r : Int
 s : Int
structure ExS (a b : Ex) (qt rs ab : Int) : Prop where
 ge : decide (Int.sign (a.f - ab) < 0) = false
 c1 : fitZ (qt * a.r) = qt * a.r
 c2 : fitE (qt * a.r) = 0
 c3 : fitZ (qt * a.r + a.p) = b.r
 c4 : fitE (qt * a.r + a.p) = 0
 c5 : fitZ (qt * a.s) = qt * a.s
 c6 : fitE (qt * a.s) = 0
 c7 : fitZ (qt * a.s + a.q) = b.s
 c8 : fitE (qt * a.s + a.q) = 0
 e1 : b.n = a.f
 e2 : b.d = ab
 e3 : b.m = a.d
 e4 : b.f = rs
 e5 : b.p = a.r
 e6 : b.q = a.s
theorem ExS.eq {a b : Ex} {qt rs ab : Int} (h : ExS a b qt rs ab) : b = ⟨a.f, ab, a.d, rs, a.r, a.s, b.r, b.s⟩ := by
 cases b; simp [<- h.e1, <- h.e2, <- h.e3, <- h.e4, <- h.e5, <- h.e6]
structure ExW (w0 : World) (r p m a b : Nat) (g : Bool) (A : Option Addr) (n c : Nat) (xs : List Nat) (x : Ex) (lo hi la no : RVal) (wr : World) : Prop where
 blo : Rb wr r lo
 bhi : Rb wr (r + 1) hi
 bre : Rb wr (r + 1 + 1) RVal.nil
 bla : Rb wr a la
 bno : Rb wr b no
 bon : Ba wr m g A n c xs
 cl : Blk wr p 115 #[.int .i64 0]
 l1 : r + 1 + 1 < p
 l2 : p < m
 l3 : m < a
 l4 : m < b
 l5 : a ≠ b
 bel : Below r w0 wr
 o1 : lo.o = some x.n
 o2 : lo.od = some x.d
 o3 : hi.o = some x.m
 o4 : hi.od = some x.f
 o5 : la.o = some x.p
 o6 : la.od = some x.q
 o7 : no.o = some x.r
 o8 : no.od = some x.s
 o9 : ov g xs = some 1
section
variable {w0 : World} {r p m a b : Nat} {g : Bool} {A : Option Addr} {n c : Nat} {xs : List Nat} {x : Ex} {lo hi la no : RVal} {wr wr' : World}
theorem ExW.on (h : ExW w0 r p m a b g A n c xs x lo hi la no wr) (hb : Below wr.heap.size wr wr') (hr : r <= wr.heap.size) : ExW w0 r p m a b g A n c xs x lo hi la no wr' :=
 ⟨h.blo.on hb, h.bhi.on hb, h.bre.on hb, h.bla.on hb, h.bno.on hb, h.bon.on hb, Blk.below h.cl hb (Blk.lt h.cl), h.l1, h.l2, h.l3, h.l4, h.l5, below_chain h.bel hr hb, h.o1, h.o2, h.o3, h.o4, h.o5, h.o6, h.o7, h.o8, h.o9⟩
theorem ExW.kp (h : ExW w0 r p m a b g A n c xs x lo hi la no wr) (k : Kp wr wr' p 0) (hr : r <= wr.heap.size) : ExW w0 r p m a b g A n c xs x lo hi la no wr' := by
 have := h.l1; have := h.l2; have := h.l3; have := h.l4
 exact ⟨k.rb h.blo (by omega), k.rb h.bhi (by omega), k.rb h.bre (by omega), k.rb h.bla (by omega), k.rb h.bno (by omega), k.ba h.bon (by omega), k.cl, h.l1, h.l2, h.l3, h.l4, h.l5, k.bel _ _ h.bel (by omega) hr, h.o1, h.o2, h.o3, h.o4, h.o5, h.o6, h.o7, h.o8, h.o9⟩
end
theorem Rb.pass {w : World} {r r' : Nat} {q q' : RVal} (h' : Rb w r' q') (h : Rb w r q) (hne : r' ≠ r) (a : Bool) (b : Value) (c : Bool) (d : Value) : Rb (put4 w r a b c d) r' q' :=
 ⟨Blk.far (Blk.far (Blk.far (Blk.far h'.bx (p := ⟨r, 0, none⟩) hne _) (p := ⟨r, 1, none⟩) hne _) (p := ⟨r, 2, none⟩) hne _) (p := ⟨r, 3, none⟩) hne _, h'.sl.1.put4 h.bx _ _ _ _, h'.sl.2.put4 h.bx _ _ _ _⟩
theorem Ba.pass {w : World} {r r' : Nat} {q : RVal} {g : Bool} {A : Option Addr} {n c : Nat} {xs : List Nat} (h' : Ba w r' g A n c xs) (h : Rb w r q) (hne : r' ≠ r) (a : Bool) (b : Value) (c' : Bool) (d : Value) : Ba (put4 w r a b c' d) r' g A n c xs :=
 ⟨Blk.far (Blk.far (Blk.far (Blk.far h'.bx (p := ⟨r, 0, none⟩) hne _) (p := ⟨r, 1, none⟩) hne _) (p := ⟨r, 2, none⟩) hne _) (p := ⟨r, 3, none⟩) hne _, h'.sl.put4 h.bx _ _ _ _⟩
theorem Blk.pass {w : World} {r g : Nat} {t : TypeId} {cs : Array Value} {q : RVal} (h' : Blk w g t cs) (hne : g ≠ r) (_h : Rb w r q) (a : Bool) (b : Value) (c : Bool) (d : Value) : Blk (put4 w r a b c d) g t cs :=
 Blk.far (Blk.far (Blk.far (Blk.far h' (p := ⟨r, 0, none⟩) hne _) (p := ⟨r, 1, none⟩) hne _) (p := ⟨r, 2, none⟩) hne _) (p := ⟨r, 3, none⟩) hne _
theorem Rb.two {w : World} {r r1 r2 : Nat} {q q1 q2 : RVal} (h : Rb w r q) (h1 : Rb w r1 q1) (h2 : Rb w r2 q2) (n1 : r ≠ r1) (n2 : r ≠ r2) (n3 : r2 ≠ r1) (a : Bool) (b : Value) (c : Bool) (d : Value) (a' : Bool) (b' : Value) (c' : Bool) (d' : Value) : Rb (put4 (put4 w r1 a b c d) r2 a' b' c' d') r q :=
 (h.pass h1 n1 a b c d).pass (h2.pass h1 n3 a b c d) n2 _ _ _ _
theorem Ba.two {w : World} {r r1 r2 : Nat} {q1 q2 : RVal} {g : Bool} {A : Option Addr} {n k : Nat} {xs : List Nat} (h : Ba w r g A n k xs) (h1 : Rb w r1 q1) (h2 : Rb w r2 q2) (n1 : r ≠ r1) (n2 : r ≠ r2) (n3 : r2 ≠ r1) (a : Bool) (b : Value) (c : Bool) (d : Value) (a' : Bool) (b' : Value) (c' : Bool) (d' : Value) : Ba (put4 (put4 w r1 a b c d) r2 a' b' c' d') r g A n k xs :=
 (h.pass h1 n1 a b c d).pass (h2.pass h1 n3 a b c d) n2 _ _ _ _
theorem Rb.put_in {w : World} {r : Nat} {q q' : RVal} (h : Rb w r q) (hi : q'.In w) (a : Bool) (b : Value) (c : Bool) (d : Value) : q'.In (put4 w r a b c d) := ⟨hi.1.put4 h.bx _ _ _ _, hi.2.put4 h.bx _ _ _ _⟩
section
variable {w0 : World} {r p m a b : Nat} {g : Bool} {A : Option Addr} {n c : Nat} {xs : List Nat} {x : Ex} {lo hi la no : RVal} {wr wr' : World}
theorem ExW.turn (h : ExW w0 r p m a b g A n c xs x lo hi la no wr) {t : RVal} (ht : t.In wr) {N D : Int} (o : t.o = some N) (od : t.od = some D) : ExW w0 r p m a b g A n c xs ⟨x.n, x.d, x.m, x.f, x.r, x.s, N, D⟩ lo hi no t (put4 (put4 wr a no.g (.slice no.A no.n no.c) no.gd (.slice no.Ad no.nd no.cd)) b t.g (.slice t.A t.n t.c) t.gd (.slice t.Ad t.nd t.cd)) := by
 have l1 := h.l1; have l2 := h.l2; have l3 := h.l3; have l4 := h.l4; have l5 := h.l5
 have e1 := h.bla.put h.bno.sl
 have e2 := h.bno.pass h.bla l5.symm no.g (.slice no.A no.n no.c) no.gd (.slice no.Ad no.nd no.cd)
 have e3 := h.bla.put_in ht no.g (.slice no.A no.n no.c) no.gd (.slice no.Ad no.nd no.cd)
 exact ⟨h.blo.two h.bla h.bno (by omega) (by omega) l5.symm _ _ _ _ _ _ _ _, h.bhi.two h.bla h.bno (by omega) (by omega) l5.symm _ _ _ _ _ _ _ _, h.bre.two h.bla h.bno (by omega) (by omega) l5.symm _ _ _ _ _ _ _ _, e1.pass e2 l5 _ _ _ _, e2.put e3, h.bon.two h.bla h.bno (by omega) (by omega) l5.symm _ _ _ _ _ _ _ _,
  Blk.pass (Blk.pass h.cl (show p ≠ a by omega) h.bla _ _ _ _) (show p ≠ b by omega) e2 _ _ _ _, l1, l2, l3, l4, l5, below_put4 (below_put4 h.bel (by omega) _ _ _ _) (by omega) _ _ _ _, h.o1, h.o2, h.o3, h.o4, h.o7, h.o8, o, od, h.o9⟩
theorem ExW.drew (h : ExW w0 r p m a b g A n c xs x lo hi la no wr) : ExW w0 r p m a b g A n c xs x lo hi la no wr.drew :=
 ⟨h.blo.drew, h.bhi.drew, h.bre.drew, h.bla.drew, h.bno.drew, ⟨h.bon.bx.drew, h.bon.sl.drew⟩, Blk.drew h.cl, h.l1, h.l2, h.l3, h.l4, h.l5, h.bel.drew, h.o1, h.o2, h.o3, h.o4, h.o5, h.o6, h.o7, h.o8, h.o9⟩
theorem ExW.step (h : ExW w0 r p m a b g A n c xs x lo hi la no wr) {q1 q2 : RVal} (h1 : q1.In wr) (h2 : q2.In wr) {N1 D1 N2 D2 : Int} (o1 : q1.o = some N1) (o2 : q1.od = some D1) (o3 : q2.o = some N2) (o4 : q2.od = some D2) : ExW w0 r p m a b g A n c xs ⟨N1, D1, N2, D2, x.p, x.q, x.r, x.s⟩ q1 q2 la no (put4 (put4 wr r q1.g (.slice q1.A q1.n q1.c) q1.gd (.slice q1.Ad q1.nd q1.cd)) (r + 1) q2.g (.slice q2.A q2.n q2.c) q2.gd (.slice q2.Ad q2.nd q2.cd)) := by
 have l1 := h.l1; have l2 := h.l2; have l3 := h.l3; have l4 := h.l4; have l5 := h.l5
 have n1 : r + 1 ≠ r := by omega
 have e1 := h.blo.put h1
 have e2 := h.bhi.pass h.blo n1 q1.g (.slice q1.A q1.n q1.c) q1.gd (.slice q1.Ad q1.nd q1.cd)
 have e3 := h.blo.put_in h2 q1.g (.slice q1.A q1.n q1.c) q1.gd (.slice q1.Ad q1.nd q1.cd)
 exact ⟨e1.pass e2 n1.symm _ _ _ _, e2.put e3, h.bre.two h.blo h.bhi (by omega) (by omega) n1 _ _ _ _ _ _ _ _, h.bla.two h.blo h.bhi (by omega) (by omega) n1 _ _ _ _ _ _ _ _, h.bno.two h.blo h.bhi (by omega) (by omega) n1 _ _ _ _ _ _ _ _, h.bon.two h.blo h.bhi (by omega) (by omega) n1 _ _ _ _ _ _ _ _,
  Blk.pass (Blk.pass h.cl (show p ≠ r by omega) h.blo _ _ _ _) (show p ≠ r + 1 by omega) e2 _ _ _ _, l1, l2, l3, l4, l5, below_put4 (below_put4 h.bel (by omega) _ _ _ _) (by omega) _ _ _ _, o1, o2, o3, o4, h.o5, h.o6, h.o7, h.o8, h.o9⟩
end
end Go.Proofs.YtmncfbfepdbioaaGreatDoor
namespace Go.Proofs.YtmncfbfepdbioaaGreatDoor
open Go.RowKit
end Go.Proofs.YtmncfbfepdbioaaGreatDoor
namespace Go.Proofs.YtmncfbfepdbioaaGreatDoor
open Go.RowKit
end Go.Proofs.YtmncfbfepdbioaaGreatDoor
namespace Go.Proofs.YtmncfbfepdbioaaGreatDoor
open Go.RowKit
theorem rv_mk {a b : Int} (hb : 0 < b) (hg : gcdZ a b = 1) : rv (some a) (some b) = some (Rat.divInt a b) := by unfold rv; exact if_pos ⟨hb, hg⟩
end Go.Proofs.YtmncfbfepdbioaaGreatDoor
namespace Go.Proofs.YtmncfbfepdbioaaGreatDoor
open Go.RowKit
def Ex.qt (x : Ex) : Int := x.n / x.d
def Ex.rs (x : Ex) : Int := x.n % x.d
def Ex.ab (x : Ex) : Int := x.m - x.qt * x.f
def Ex.next (x : Ex) : Ex := ⟨x.f, x.ab, x.d, x.rs, x.r, x.s, x.qt * x.r + x.p, x.qt * x.s + x.q⟩
def Ex.at (x : Ex) : Nat -> Ex
 | 0 => x
 | k + 1 => (x.at k).next
structure Btw (x : Ex) (T U : Int) : Prop where
 u : 0 < U
 lo : x.n * U < T * x.d
 hi : T * x.f < x.m * U
structure Inv (x : Ex) : Prop where
 n0 : 0 <= x.n
 d0 : 0 < x.d
 m0 : 0 <= x.m
 f0 : 0 <= x.f
 lt : x.n * x.f < x.m * x.d
 p0 : 0 <= x.p
 q0 : 0 <= x.q
 r0 : 0 <= x.r
 s0 : 0 <= x.s
 pq : 1 <= x.p + x.q
 rs : 1 <= x.r + x.s
 nb : x.n.natAbs < BIG
 db : x.d.natAbs < BIG
 mb : x.m.natAbs < BIG
 fb : x.f.natAbs < BIG
 b1 : (x.r * x.n + x.p * x.d).natAbs < BIG
 b2 : (x.s * x.n + x.q * x.d).natAbs < BIG
 b3 : (x.r * x.m + x.p * x.f).natAbs < BIG
 b4 : (x.s * x.m + x.q * x.f).natAbs < BIG
 det : x.r * x.q - x.p * x.s = 1 \/ x.r * x.q - x.p * x.s = -1
section
variable {x : Ex}
theorem Ex.div (h : 0 < x.d) : x.d * x.qt + x.rs = x.n /\ 0 <= x.rs /\ x.rs < x.d := ⟨Int.mul_ediv_add_emod _ _, Int.emod_nonneg _ (by omega), Int.emod_lt_of_pos _ h⟩
theorem Inv.qt0 (h : Inv x) : 0 <= x.qt := Int.ediv_nonneg h.n0 (Int.le_of_lt h.d0)
theorem Inv.qtf (h : Inv x) : x.qt * x.f < x.m := by
 have e := Ex.div h.d0
 have a : x.d * (x.qt * x.f) <= x.n * x.f := by
  have k : (x.d * x.qt) * x.f <= x.n * x.f := Int.mul_le_mul_of_nonneg_right (by omega) h.f0
  rwa [Int.mul_assoc] at k
 have b : x.d * (x.qt * x.f) < x.d * x.m := by have := h.lt; rw [Int.mul_comm x.d x.m]; omega
 exact Int.lt_of_mul_lt_mul_left b (Int.le_of_lt h.d0)
theorem Inv.ab0 (h : Inv x) : 0 < x.ab := by have := h.qtf; unfold Ex.ab; omega
theorem nat_lt {a b : Int} (h0 : 0 <= a) (h : a <= b) (hb : b.natAbs < BIG) : a.natAbs < BIG := by omega
theorem Inv.next (h : Inv x) : Inv x.next := by
 have e := Ex.div h.d0
 have q0 := h.qt0
 have ab0 := h.ab0
 have qf : 0 <= x.qt * x.f := Int.mul_nonneg q0 h.f0
 have qr : 0 <= x.qt * x.r := Int.mul_nonneg q0 h.r0
 have qs : 0 <= x.qt * x.s := Int.mul_nonneg q0 h.s0
 have hab : x.ab = x.m - x.qt * x.f := rfl
 refine ⟨h.f0, ab0, Int.le_of_lt h.d0, e.2.1, ?_, h.r0, h.s0, ?_, ?_, h.rs, ?_, h.fb, ?_, h.db, ?_, ?_, ?_, ?_, ?_, ?_⟩
 . show x.f * x.rs < x.d * x.ab
   have k : x.d * x.ab - x.f * x.rs = x.m * x.d - x.n * x.f := by rw [hab]; have := e.1; grind
   have := h.lt
   omega
 . show 0 <= x.qt * x.r + x.p
   have := h.p0; omega
 . show 0 <= x.qt * x.s + x.q
   have := h.q0; omega
 . show 1 <= x.qt * x.r + x.p + (x.qt * x.s + x.q)
   have := h.pq; omega
 . show x.ab.natAbs < BIG
   exact nat_lt (Int.le_of_lt ab0) (by omega : x.ab <= x.m) h.mb
 . show x.rs.natAbs < BIG
   exact nat_lt e.2.1 (by omega : x.rs <= x.d) h.db
 . show ((x.qt * x.r + x.p) * x.f + x.r * x.ab).natAbs < BIG
   have k : (x.qt * x.r + x.p) * x.f + x.r * x.ab = x.r * x.m + x.p * x.f := by rw [hab]; grind
   rw [k]; exact h.b3
 . show ((x.qt * x.s + x.q) * x.f + x.s * x.ab).natAbs < BIG
   have k : (x.qt * x.s + x.q) * x.f + x.s * x.ab = x.s * x.m + x.q * x.f := by rw [hab]; grind
   rw [k]; exact h.b4
 . show ((x.qt * x.r + x.p) * x.d + x.r * x.rs).natAbs < BIG
   have k : (x.qt * x.r + x.p) * x.d + x.r * x.rs = x.r * x.n + x.p * x.d := by have := e.1; grind
   rw [k]; exact h.b1
 . show ((x.qt * x.s + x.q) * x.d + x.s * x.rs).natAbs < BIG
   have k : (x.qt * x.s + x.q) * x.d + x.s * x.rs = x.s * x.n + x.q * x.d := by have := e.1; grind
   rw [k]; exact h.b2
 . show (x.qt * x.r + x.p) * x.s - x.r * (x.qt * x.s + x.q) = 1 \/ (x.qt * x.r + x.p) * x.s - x.r * (x.qt * x.s + x.q) = -1
   have k : (x.qt * x.r + x.p) * x.s - x.r * (x.qt * x.s + x.q) = -(x.r * x.q - x.p * x.s) := by grind
   rw [k]
   rcases h.det with d | d
   . right; omega
   . left; omega
theorem Inv.at (h : Inv x) : ∀ k, Inv (x.at k)
 | 0 => h
 | k + 1 => (Inv.at h k).next
theorem Btw.next (h : Inv x) {T U : Int} (b : Btw x T U) : ∃ R : Int, T = x.qt * U + R /\ Btw x.next U R := by
 have e := Ex.div h.d0
 have hab : x.ab = x.m - x.qt * x.f := rfl
 refine ⟨T - x.qt * U, by omega, ?_, ?_, ?_⟩
 . -- T > qt U
   have a : x.d * (x.qt * U) <= x.n * U := by
    have k : (x.d * x.qt) * U <= x.n * U := Int.mul_le_mul_of_nonneg_right (by omega) (Int.le_of_lt b.u)
    rwa [Int.mul_assoc] at k
   have c : x.d * (x.qt * U) < x.d * T := by have := b.lo; rw [Int.mul_comm x.d T]; omega
   have := Int.lt_of_mul_lt_mul_left c (Int.le_of_lt h.d0)
   omega
 . show x.f * (T - x.qt * U) < U * x.ab
   have k : U * x.ab - x.f * (T - x.qt * U) = x.m * U - T * x.f := by rw [hab]; grind
   have := b.hi
   omega
 . show U * x.rs < x.d * (T - x.qt * U)
   have k : x.d * (T - x.qt * U) - U * x.rs = T * x.d - x.n * U := by have := e.1; grind
   have := b.lo
   omega
theorem Btw.back (h : Inv x) {U R : Int} (b : Btw x.next U R) (hU : 0 < U) : Btw x (x.qt * U + R) U := by
 have e := Ex.div h.d0
 have hab : x.ab = x.m - x.qt * x.f := rfl
 have b1 : x.f * R < U * x.ab := b.lo
 have b2 : U * x.rs < x.d * R := b.hi
 refine ⟨hU, ?_, ?_⟩
 . have k : (x.qt * U + R) * x.d - x.n * U = x.d * R - U * x.rs := by have := e.1; grind
   omega
 . have k : x.m * U - (x.qt * U + R) * x.f = U * x.ab - x.f * R := by rw [hab]; grind
   omega
theorem ends : ∀ (M : Nat) (x : Ex), Inv x -> (x.d + x.f).toNat <= M -> ∃ K, (∀ k, k < K -> (x.at k).ab <= (x.at k).f) /\ (x.at K).f < (x.at K).ab
 | 0, x, h, hM => by have := h.d0; have := h.f0; omega
 | M + 1, x, h, hM => by
   by_cases g : x.ab <= x.f
   . have e := Ex.div h.d0
     have h0 := h.ab0
     obtain ⟨K, k1, k2⟩ := ends M x.next h.next (by show (x.ab + x.rs).toNat <= M; omega)
     have sh : ∀ k, x.next.at k = x.at (k + 1) := fun k => by
      induction k with
      | zero => rfl
      | succ k ih => show (x.next.at k).next = (x.at (k + 1)).next; rw [ih]
     refine ⟨K + 1, fun k hk => ?_, by rw [<- sh]; exact k2⟩
     rcases k with _ | k
     . exact g
     . rw [<- sh]; exact k1 k (by omega)
   . exact ⟨0, fun k hk => absurd hk (Nat.not_lt_zero _), by show x.f < x.ab; omega⟩
end
def Ex.of (n d m f : Int) : Ex := ⟨n, d, m, f, 0, 1, 1, 0⟩
theorem Inv.of {n d m f : Int} (n0 : 0 <= n) (d0 : 0 < d) (f0 : 0 < f) (lt : n * f < m * d) (nb : n.natAbs < BIG) (db : d.natAbs < BIG) (mb : m.natAbs < BIG) (fb : f.natAbs < BIG) : Inv (Ex.of n d m f) := by
 have hm : 0 <= m := by
  have a : 0 <= n * f := Int.mul_nonneg n0 (Int.le_of_lt f0)
  by_cases k : m < 0
  . have := Int.mul_neg_of_neg_of_pos k d0; omega
  . omega
 exact ⟨n0, d0, hm, Int.le_of_lt f0, lt, Int.le_refl _, (by show (0 : Int) <= 1; decide), (by show (0 : Int) <= 1; decide), Int.le_refl _, (by show (1 : Int) <= 0 + 1; decide), (by show (1 : Int) <= 1 + 0; decide), nb, db, mb, fb, by show (1 * n + 0 * d).natAbs < BIG; rw [Int.one_mul, Int.zero_mul, Int.add_zero]; exact nb, by show (0 * n + 1 * d).natAbs < BIG; rw [Int.one_mul, Int.zero_mul, Int.zero_add]; exact db, by show (1 * m + 0 * f).natAbs < BIG; rw [Int.one_mul, Int.zero_mul, Int.add_zero]; exact mb, by show (0 * m + 1 * f).natAbs < BIG; rw [Int.one_mul, Int.zero_mul, Int.zero_add]; exact fb, Or.inl rfl⟩
end Go.Proofs.YtmncfbfepdbioaaGreatDoor
namespace Go.Proofs.YtmncfbfepdbioaaGreatDoor
open Go.RowKit
structure ClW (w0 : World) (r : Nat) (u : Int) (n d m f : Int) (qa qb : RVal) (wr : World) : Prop where
 ba : Rb wr r qa
 bb : Rb wr (r + 1) qb
 bel : Below r w0 wr
 o1 : qa.o = some n
 o2 : qa.od = some d
 o3 : qb.o = some m
 o4 : qb.od = some f
 pd : 0 < d
 pf : 0 < f
 sg : Int.sign (n * f - m * d) = u
section
variable {w0 : World} {r : Nat} {u n d m f : Int} {qa qb : RVal} {wr wr' : World}
theorem ClW.on (h : ClW w0 r u n d m f qa qb wr) (hb : Below wr.heap.size wr wr') (hr : r <= wr.heap.size) : ClW w0 r u n d m f qa qb wr' :=
 ⟨h.ba.on hb, h.bb.on hb, below_chain h.bel hr hb, h.o1, h.o2, h.o3, h.o4, h.pd, h.pf, h.sg⟩
theorem ClW.drew (h : ClW w0 r u n d m f qa qb wr) : ClW w0 r u n d m f qa qb wr.drew :=
 ⟨h.ba.drew, h.bb.drew, h.bel.drew, h.o1, h.o2, h.o3, h.o4, h.pd, h.pf, h.sg⟩
theorem ClW.step (h : ClW w0 r u n d m f qa qb wr) {q1 q2 : RVal} (h1 : q1.In wr) (h2 : q2.In wr) {N1 D1 N2 D2 : Int} (o1 : q1.o = some N1) (o2 : q1.od = some D1) (o3 : q2.o = some N2) (o4 : q2.od = some D2) (p1 : 0 < D1) (p2 : 0 < D2) (hs : Int.sign (N1 * D2 - N2 * D1) = u) :
 ClW w0 r u N1 D1 N2 D2 q1 q2 (put4 (put4 wr r q1.g (.slice q1.A q1.n q1.c) q1.gd (.slice q1.Ad q1.nd q1.cd)) (r + 1) q2.g (.slice q2.A q2.n q2.c) q2.gd (.slice q2.Ad q2.nd q2.cd)) := by
 have n1 : r + 1 ≠ r := by omega
 have e1 := h.ba.put h1
 have e2 := h.bb.pass h.ba n1 q1.g (.slice q1.A q1.n q1.c) q1.gd (.slice q1.Ad q1.nd q1.cd)
 have e3 := h.ba.put_in h2 q1.g (.slice q1.A q1.n q1.c) q1.gd (.slice q1.Ad q1.nd q1.cd)
 exact ⟨e1.pass e2 n1.symm _ _ _ _, e2.put e3, below_put4 (below_put4 h.bel (by omega) _ _ _ _) (by omega) _ _ _ _, o1, o2, o3, o4, p1, p2, hs⟩
end
end Go.Proofs.YtmncfbfepdbioaaGreatDoor
namespace Go.Proofs.YtmncfbfepdbioaaGreatDoor
open Go.RowKit
end Go.Proofs.YtmncfbfepdbioaaGreatDoor
namespace Go.Proofs.YtmncfbfepdbioaaGreatDoor
open Go.RowKit
end Go.Proofs.YtmncfbfepdbioaaGreatDoor
namespace Go.Proofs.YtmncfbfepdbioaaGreatDoor
structure Sta (n d m f : Int) : Prop where
 n0 : 0 <= n
 d0 : 0 < d
 f0 : 0 <= f
 m0 : 0 < m
 lt : n * f < m * d
theorem Sta.q0 {n d m f : Int} (h : Sta n d m f) : 0 <= n / d := Int.ediv_nonneg h.n0 (Int.le_of_lt h.d0)
theorem Sta.eq {n d m f : Int} (h : Sta n d m f) : n = n / d * d + n % d /\ 0 <= n % d /\ n % d < d := by
 have := Int.mul_ediv_add_emod n d
 rw [Int.mul_comm] at this
 exact ⟨by omega, Int.emod_nonneg _ (by have := h.d0; omega), Int.emod_lt_of_pos _ h.d0⟩
theorem Sta.dpos {n d m f : Int} (h : Sta n d m f) : 0 < m - n / d * f := by
 obtain ⟨e, r0, r1⟩ := h.eq
 have q0 := h.q0
 have lt := h.lt
 have f0 := h.f0
 have d0 := h.d0
 generalize n / d = q at *
 generalize n % d = r at *
 have k : d * (q * f) < d * m := by
  have a : q * d * f <= n * f := Int.mul_le_mul_of_nonneg_right (by omega) f0
  have e1 : d * (q * f) = q * d * f := by grind
  have e2 : d * m = m * d := Int.mul_comm _ _
  omega
 have := Int.lt_of_mul_lt_mul_left k (by omega)
 omega
theorem Sta.next {n d m f : Int} (h : Sta n d m f) : Sta f (m - n / d * f) d (n % d) := by
 obtain ⟨e, r0, r1⟩ := h.eq
 refine ⟨h.f0, h.dpos, r0, h.d0, ?_⟩
 have lt := h.lt
 generalize n / d = q at *
 generalize n % d = r at *
 subst e
 have e1 : (q * d + r) * f = q * d * f + f * r := by grind
 have e2 : d * (m - q * f) = m * d - q * d * f := by grind
 omega
theorem Sta.goes {n d m f : Int} (h : Sta n d m f) (g : ¬ (n / d + 1) * f < m) : m - n / d * f <= f /\ 1 <= f := by
 have m0 := h.m0
 have f0 := h.f0
 have q0 := h.q0
 have e : (n / d + 1) * f = n / d * f + f := by rw [Int.add_mul, Int.one_mul]
 refine ⟨by omega, ?_⟩
 by_cases k : f = 0
 . subst k; rw [Int.mul_zero] at g; omega
 . omega
theorem two_lt {k E : Nat} {P : Int} (h : (2 : Int) ^ k <= 2 * P) (hP : P < 2 ^ E) : k < E + 1 := by
 by_cases g : E + 1 <= k
 . have a : (2 : Nat) ^ (E + 1) <= 2 ^ k := Nat.pow_le_pow_right (by decide) g
   have b : ((2 ^ (E + 1) : Nat) : Int) <= ((2 ^ k : Nat) : Int) := Int.ofNat_le.2 a
   rw [Int.natCast_pow, Int.natCast_pow] at b
   have c : ((2 : Nat) : Int) ^ (E + 1) = ((2 : Nat) : Int) ^ E * 2 := Int.pow_succ _ _
   rw [c] at b
   have d : ((2 : Nat) : Int) = 2 := rfl
   rw [d] at b
   generalize (2 : Int) ^ E = z at *
   omega
 . omega
structure Few (E : Nat) (P n d f : Int) (k : Nat) : Prop where
 h : n * f * 2 ^ k <= 2 * P
 d : (k = 0 /\ n * f <= P) \/ d <= n
 k : k <= E + 2
theorem Few.next {E : Nat} {P n d m f : Int} {k : Nat} (h : Few E P n d f k) (s : Sta n d m f) (g : ¬ (n / d + 1) * f < m) (hP : P < 2 ^ E) : Few E P f (m - n / d * f) (n % d) (k + 1) := by
 have a := s.goes g
 obtain ⟨e, r0, r1⟩ := s.eq
 have q0 := s.q0
 have n0 := s.n0
 have d0 := s.d0
 have p2 : (0 : Int) < 2 ^ k := Int.pow_pos (by decide)
 refine ⟨?_, Or.inr a.1, ?_⟩
 . rw [Int.pow_succ]
   rcases h.d with ⟨k0, kp⟩ | kd
   . subst k0
     have b : f * (n % d) <= f * n := Int.mul_le_mul_of_nonneg_left (by
      have := Int.mul_nonneg q0 (Int.le_of_lt d0); omega) (by omega)
     have c := h.h
     rw [Int.pow_zero] at *
     have e1 : f * (n % d) * (1 * 2) = 2 * (f * (n % d)) := by grind
     have e2 : n * f * 1 = f * n := by grind
     rw [e1]
     rw [Int.mul_comm n f] at kp
     omega
   . have q1 : 1 <= n / d := by
      have := Int.ediv_le_ediv d0 kd
      rwa [Int.ediv_self (by omega)] at this
     have q2 : 1 * d <= n / d * d := Int.mul_le_mul_of_nonneg_right q1 (by omega)
     have b : f * (2 * (n % d)) <= f * n := Int.mul_le_mul_of_nonneg_left (by omega) (by omega)
     have c : f * (2 * (n % d)) * 2 ^ k <= f * n * 2 ^ k := Int.mul_le_mul_of_nonneg_right b (by omega)
     have e1 : f * (n % d) * ((2 : Int) ^ k * 2) = f * (2 * (n % d)) * 2 ^ k := by grind
     have e2 : n * f * (2 : Int) ^ k = f * n * 2 ^ k := by grind
     have := h.h
     omega
 . rcases h.d with ⟨k0, kp⟩ | kd
   . omega
   . have b : 1 * 1 <= n * f := Int.mul_le_mul (by omega) a.2 (by decide) n0
     have c : 1 * 2 ^ k <= n * f * 2 ^ k := Int.mul_le_mul_of_nonneg_right (by omega) (by omega)
     have := h.h
     have := two_lt (by omega : (2 : Int) ^ k <= 2 * P) hP
     omega
end Go.Proofs.YtmncfbfepdbioaaGreatDoor
namespace Go.Proofs.YtmncfbfepdbioaaGreatDoor
open Go.RowKit
theorem ov_same {w w' : World} {B B' n n' c c' : Nat} {A A' : Option Addr} {g g' : Bool} {xs ys : List Nat} {z : Int} (h : Sl w B A n c xs) (h' : Sl w' B' A' n' c' ys) (o : ov g xs = some z) (o' : ov g' ys = some z) : g = g' /\ xs = ys :=
 ⟨(ov_sign o).symm.trans (ov_sign o'), uniq h.ok h'.ok (ov_parts o).1 (ov_parts o').1 ((ov_parts o).2.1.trans (ov_parts o').2.1.symm)⟩
end Go.Proofs.YtmncfbfepdbioaaGreatDoor
namespace Go.Proofs.YtmncfbfepdbioaaGreatDoor
open Go.RowKit
section
variable {q q' : RVal} {w : World}
theorem qn (n d : Int) (h : 0 < d) (hg : gcdZ n d = 1) : (Rat.divInt n d).num = n /\ ((Rat.divInt n d).den : Int) = d := by
 have r := rv_some (rv_mk h hg)
 exact ⟨(Option.some.inj r.1).symm, (Option.some.inj r.2).symm⟩
end
end Go.Proofs.YtmncfbfepdbioaaGreatDoor
namespace Go.Proofs.YtmncfbfepdbioaaGreatDoor
open Go.RowKit
structure SaneW (w0 : World) (b1 b3 b7 b9 : Nat) (t1 t3 t9 : RVal) (g : Bool) (A : Option Addr) (n c : Nat) (xs : List Nat) (w : World) : Prop where
 f1 : Rb w b1 t1
 f2 : Rb w b3 t3
 f3 : Ba w b7 g A n c xs
 f4 : Rb w b9 t9
 f5 : Below w0.heap.size w0 w
theorem SaneW.on {w0 w w' : World} {b1 b3 b7 b9 : Nat} {t1 t3 t9 : RVal} {g : Bool} {A : Option Addr} {n c : Nat} {xs : List Nat} (h : SaneW w0 b1 b3 b7 b9 t1 t3 t9 g A n c xs w) (hb : Below w.heap.size w w') : SaneW w0 b1 b3 b7 b9 t1 t3 t9 g A n c xs w' :=
 ⟨h.f1.on hb, h.f2.on hb, h.f3.on hb, h.f4.on hb, below_chain h.f5 h.f5.size hb⟩
end Go.Proofs.YtmncfbfepdbioaaGreatDoor
