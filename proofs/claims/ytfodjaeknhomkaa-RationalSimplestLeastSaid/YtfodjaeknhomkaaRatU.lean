/-
  Stage 2: Simplest between a third and a half, a course of the expansion known.
-/
import Derived.Test.YtfodjaeknhomkaaRatT
namespace Go.Proofs.Ytfodjaeknhomkaa
open Go.RowKit
theorem fit_small {z : Int} (h : z.natAbs < 4294967296) : fitZ z = z ∧ fitE z = 0 := fit_yes (lt_big h)
theorem rv_mk {a b : Int} (hb : 0 < b) (hg : gcdZ a b = 1) : rv (some a) (some b) = some (Rat.divInt a b) := by unfold rv; exact if_pos ⟨hb, hg⟩
def st3 : Nat → Ex
  | 0 => ⟨1, 3, 1, 2, 0, 1, 1, 0⟩
  | 1 => ⟨2, 1, 3, 1, 1, 0, 0, 1⟩
  | _ => ⟨1, 1, 1, 0, 0, 1, 1, 2⟩
def qt3 : Nat → Int
  | 0 => 0
  | 1 => 2
  | _ => 1
def rs3 : Nat → Int
  | 0 => 1
  | _ => 0
theorem exR_of {a : Ex} {qt rs ab : Int} (q1 : dvQ (some a.n) (some a.d) = qt) (q2 : dvR (some a.n) (some a.d) = rs) (b1 : qt.natAbs < 4294967296) (b2 : rs.natAbs < 4294967296) (t : (qt * a.f).natAbs < 4294967296) (s : a.m - qt * a.f = ab) (sb : ab.natAbs < 4294967296) : ExR a qt rs ab :=
  ⟨q1, q2, lt_big b1, lt_big b2, (fit_small t).1, (fit_small t).2, by rw [s]; exact (fit_small sb).1, by rw [s]; exact (fit_small sb).2⟩
theorem exS_of {a b : Ex} {qt rs ab : Int} (ge : decide (Int.sign (a.f - ab) < 0) = false) (h1 : (qt * a.r).natAbs < 4294967296) (h2 : qt * a.r + a.p = b.r) (h3 : b.r.natAbs < 4294967296) (h4 : (qt * a.s).natAbs < 4294967296) (h5 : qt * a.s + a.q = b.s) (h6 : b.s.natAbs < 4294967296)
    (e1 : b.n = a.f) (e2 : b.d = ab) (e3 : b.m = a.d) (e4 : b.f = rs) (e5 : b.p = a.r) (e6 : b.q = a.s) : ExS a b qt rs ab :=
  ⟨ge, (fit_small h1).1, (fit_small h1).2, by rw [h2]; exact (fit_small h3).1, by rw [h2]; exact (fit_small h3).2, (fit_small h4).1, (fit_small h4).2, by rw [h5]; exact (fit_small h6).1, by rw [h5]; exact (fit_small h6).2, e1, e2, e3, e4, e5, e6⟩
theorem expand_third (q q' : RVal) (w : World) (h : q.In w) (h' : q'.In w) (o1 : q.o = some 1) (o2 : q.od = some 3) (o3 : q'.o = some 1) (o4 : q'.od = some 2) :
    Calls Try.prog 19 #[.agg #[.bool q.g, .slice q.A q.n q.c, .bool q.gd, .slice q.Ad q.nd q.cd], .agg #[.bool q'.g, .slice q'.A q'.n q'.c, .bool q'.gd, .slice q'.Ad q'.nd q'.cd]] w (RetR 2 5 0 w) := by
  refine expand_run q q' w h h' 2 st3 qt3 rs3 (fun _ => 1) o1 o2 o3 o4 rfl rfl rfl rfl ?_ ?_ (by decide) 2 2 2 4 5 ?_ ?_ ?_ ?_ ?_ ?_ ?_ ?_ ?_ ?_
  · refine Lib.hid (fun k hk => ?_)
    match k, hk with
    | 0, _ => exact exR_of (by decide) (by decide) (by decide) (by decide) (by decide) (by decide) (by decide)
    | 1, _ => exact exR_of (by decide) (by decide) (by decide) (by decide) (by decide) (by decide) (by decide)
    | 2, _ => exact exR_of (by decide) (by decide) (by decide) (by decide) (by decide) (by decide) (by decide)
  · refine Lib.hid (fun k hk => ?_)
    match k, hk with
    | 0, _ => exact exS_of (by decide) (by decide) (by decide) (by decide) (by decide) (by decide) (by decide) rfl rfl rfl rfl rfl rfl
    | 1, _ => exact exS_of (by decide) (by decide) (by decide) (by decide) (by decide) (by decide) (by decide) rfl rfl rfl rfl rfl rfl
  all_goals first | exact (fit_small (z := 2) (by decide)).1 | exact (fit_small (z := 2) (by decide)).2 | exact (fit_small (z := 4) (by decide)).1 | exact (fit_small (z := 4) (by decide)).2 | exact (fit_small (z := 5) (by decide)).1 | exact (fit_small (z := 5) (by decide)).2
theorem simplest_third (q q' : RVal) (w : World) (h : q.In w) (h' : q'.In w) (o1 : q.o = some 1) (o2 : q.od = some 3) (o3 : q'.o = some 1) (o4 : q'.od = some 2) :
    Calls Try.prog 5 #[.agg #[.bool q.g, .slice q.A q.n q.c, .bool q.gd, .slice q.Ad q.nd q.cd], .agg #[.bool q'.g, .slice q'.A q'.n q'.c, .bool q'.gd, .slice q'.Ad q'.nd q'.cd]] w (RetR 2 5 0 w) := by
  obtain ⟨x, hx⟩ : ∃ x, rv (some 1) (some 3) = some x := ⟨_, rv_mk (by decide) (by decide)⟩
  obtain ⟨y, hy⟩ : ∃ x, rv (some 1) (some 2) = some x := ⟨_, rv_mk (by decide) (by decide)⟩
  refine simplest_low q q' w h h' (fun w' h h' => ?_) (ov_sign (a := 1) o1).symm 2 5 0 (fun w' h h' => expand_third q q' w' h h' o1 o2 o3 o4)
  exact rcm_short q q' w' h h' x y (by rw [o1, o2]; exact hx) (by rw [o3, o4]; exact hy) 1 3 1 2 2 3 0 0 o1 o2 o3 o4 (fit_small (z := 2) (by decide)).1 (fit_small (z := 3) (by decide)).1 (kf_zero (fit_small (z := 2) (by decide)).2) (kf_zero (fit_small (z := 3) (by decide)).2) rfl (-1) (by decide)
end Go.Proofs.Ytfodjaeknhomkaa
