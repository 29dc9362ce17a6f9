/-
  The walks of Cmp; the answer no of Same.
-/
import Derived.Test.YtalgcppogjpilaaLawSums
import Derived.Test.YtalgcppogjpilaaCmp
namespace Go.Proofs.Ytalgcppogjpilaa
open Go.RowKit

/-- A result and its error. -/
def RetC (z er : Int) (w : World) (e : Ending) (w' : World) : Prop := e = .returned (.tuple #[.int .i64 z, .int .i64 er]) ∧ Below w.heap.size w w'

set_option maxHeartbeats 1000000 in
theorem cmp_bad1 (neg neg' : Bool) (A A' : Option Addr) (n c n' c' : Nat) (xs ys : List Nat) (w : World) (h : Sl w w.heap.size A n c xs) (h' : Sl w w.heap.size A' n' c' ys) (hv : vld neg xs = false) :
    Calls Try.prog 35 #[.agg #[.bool neg, .slice A n c], .agg #[.bool neg', .slice A' n' c']] w (RetC 0 1 w) := by
  go_enter Try.func35, Try.ntmps35
  go_wp2_with fail
  generalize hW : World.alloc (World.alloc w _) _ = V0
  obtain ⟨hb, ha, hc⟩ := two_boxes neg neg' A A' n c n' c' xs ys w V0 h h' hW
  have hr0 := ha.bx.lt
  have hr1 := hc.bx.lt
  have HB := Lib.hid hb
  clear hW hb h h'
  generalize hr : w.heap.size = r0 at *
  have HR := Lib.hid hr
  clear hr
  refine (valid_any _ _ _ _ _ xs _ ha.sl (Nat.le_refl _)).mono ?_
  rintro e w1 ⟨rfl, hb1⟩
  have ga := ha.on hb1
  have gc := hc.on hb1
  have HG := Lib.hid (show Below r0 w w1 from below_chain HB.out (by omega) hb1)
  clear ha hc HB hb1
  rw [hv]
  go_wp2
  exact bodyPost_ret (v := .tuple #[.int .i64 0, .int .i64 1]) (by simp [results, Try.results35, go_sem]) rfl ⟨rfl, by rw [HR.out]; exact HG.out⟩

set_option maxHeartbeats 1000000 in
theorem cmp_bad2 (neg neg' : Bool) (A A' : Option Addr) (n c n' c' : Nat) (xs ys : List Nat) (w : World) (h : Sl w w.heap.size A n c xs) (h' : Sl w w.heap.size A' n' c' ys) (hv : vld neg xs = true) (hv' : vld neg' ys = false) :
    Calls Try.prog 35 #[.agg #[.bool neg, .slice A n c], .agg #[.bool neg', .slice A' n' c']] w (RetC 0 1 w) := by
  go_enter Try.func35, Try.ntmps35
  go_wp2_with fail
  generalize hW : World.alloc (World.alloc w _) _ = V0
  obtain ⟨hb, ha, hc⟩ := two_boxes neg neg' A A' n c n' c' xs ys w V0 h h' hW
  have hr0 := ha.bx.lt
  have hr1 := hc.bx.lt
  have HB := Lib.hid hb
  clear hW hb h h'
  generalize hr : w.heap.size = r0 at *
  have HR := Lib.hid hr
  clear hr
  refine (valid_any _ _ _ _ _ xs _ ha.sl (Nat.le_refl _)).mono ?_
  rintro e w1 ⟨rfl, hb1⟩
  have ga := ha.on hb1
  have gc := hc.on hb1
  have HG := Lib.hid (show Below r0 w w1 from below_chain HB.out (by omega) hb1)
  clear ha hc HB hb1
  have k2 := gc.bx.c0
  have k3 := gc.bx.c1
  rw [hv]
  go_wp2_with fail
  clear k2 k3
  refine (valid_any _ _ _ _ _ ys _ gc.sl (Nat.le_refl _)).mono ?_
  rintro e w2 ⟨rfl, hb2⟩
  have ha := ga.on hb2
  have hc := gc.on hb2
  have hr2 := ga.bx.lt
  have HB := Lib.hid (show Below r0 w w2 from below_chain HG.out (by omega) hb2)
  clear ga gc HG hb2
  rw [hv']
  have k0 := ha.bx.c0
  have k1 := ha.bx.c1
  have k2 := hc.bx.c0
  have k3 := hc.bx.c1
  go_wp2
  exact bodyPost_ret (v := .tuple #[.int .i64 0, .int .i64 1]) (by simp [results, Try.results35, go_sem]) rfl ⟨rfl, by rw [HR.out]; exact HB.out⟩

set_option maxHeartbeats 1000000 in
theorem cmp_tf (A A' : Option Addr) (n c n' c' : Nat) (xs ys : List Nat) (w : World) (h : Sl w w.heap.size A n c xs) (h' : Sl w w.heap.size A' n' c' ys) (hv : vld true xs = true) (hv' : vld false ys = true) :
    Calls Try.prog 35 #[.agg #[.bool true, .slice A n c], .agg #[.bool false, .slice A' n' c']] w (RetC (-1) 0 w) := by
  go_enter Try.func35, Try.ntmps35
  go_wp2_with fail
  generalize hW : World.alloc (World.alloc w _) _ = V0
  obtain ⟨hb, ha, hc⟩ := two_boxes true false A A' n c n' c' xs ys w V0 h h' hW
  have hr0 := ha.bx.lt
  have hr1 := hc.bx.lt
  have HB := Lib.hid hb
  clear hW hb h h'
  generalize hr : w.heap.size = r0 at *
  have HR := Lib.hid hr
  clear hr
  refine (valid_any _ _ _ _ _ xs _ ha.sl (Nat.le_refl _)).mono ?_
  rintro e w1 ⟨rfl, hb1⟩
  have ga := ha.on hb1
  have gc := hc.on hb1
  have HG := Lib.hid (show Below r0 w w1 from below_chain HB.out (by omega) hb1)
  clear ha hc HB hb1
  have k2 := gc.bx.c0
  have k3 := gc.bx.c1
  rw [hv]
  go_wp2_with fail
  clear k2 k3
  refine (valid_any _ _ _ _ _ ys _ gc.sl (Nat.le_refl _)).mono ?_
  rintro e w2 ⟨rfl, hb2⟩
  have ha := ga.on hb2
  have hc := gc.on hb2
  have hr2 := ga.bx.lt
  have HB := Lib.hid (show Below r0 w w2 from below_chain HG.out (by omega) hb2)
  clear ga gc HG hb2
  rw [hv']
  have k0 := ha.bx.c0
  have k1 := ha.bx.c1
  have k2 := hc.bx.c0
  have k3 := hc.bx.c1
  go_wp2
  exact bodyPost_ret (v := .tuple #[.int .i64 (-1), .int .i64 0]) (by simp [results, Try.results35, go_sem]) rfl ⟨rfl, by rw [HR.out]; exact HB.out⟩

set_option maxHeartbeats 1000000 in
theorem cmp_ft (A A' : Option Addr) (n c n' c' : Nat) (xs ys : List Nat) (w : World) (h : Sl w w.heap.size A n c xs) (h' : Sl w w.heap.size A' n' c' ys) (hv : vld false xs = true) (hv' : vld true ys = true) :
    Calls Try.prog 35 #[.agg #[.bool false, .slice A n c], .agg #[.bool true, .slice A' n' c']] w (RetC 1 0 w) := by
  go_enter Try.func35, Try.ntmps35
  go_wp2_with fail
  generalize hW : World.alloc (World.alloc w _) _ = V0
  obtain ⟨hb, ha, hc⟩ := two_boxes false true A A' n c n' c' xs ys w V0 h h' hW
  have hr0 := ha.bx.lt
  have hr1 := hc.bx.lt
  have HB := Lib.hid hb
  clear hW hb h h'
  generalize hr : w.heap.size = r0 at *
  have HR := Lib.hid hr
  clear hr
  refine (valid_any _ _ _ _ _ xs _ ha.sl (Nat.le_refl _)).mono ?_
  rintro e w1 ⟨rfl, hb1⟩
  have ga := ha.on hb1
  have gc := hc.on hb1
  have HG := Lib.hid (show Below r0 w w1 from below_chain HB.out (by omega) hb1)
  clear ha hc HB hb1
  have k2 := gc.bx.c0
  have k3 := gc.bx.c1
  rw [hv]
  go_wp2_with fail
  clear k2 k3
  refine (valid_any _ _ _ _ _ ys _ gc.sl (Nat.le_refl _)).mono ?_
  rintro e w2 ⟨rfl, hb2⟩
  have ha := ga.on hb2
  have hc := gc.on hb2
  have hr2 := ga.bx.lt
  have HB := Lib.hid (show Below r0 w w2 from below_chain HG.out (by omega) hb2)
  clear ga gc HG hb2
  rw [hv']
  have k0 := ha.bx.c0
  have k1 := ha.bx.c1
  have k2 := hc.bx.c0
  have k3 := hc.bx.c1
  go_wp2
  exact bodyPost_ret (v := .tuple #[.int .i64 (1), .int .i64 0]) (by simp [results, Try.results35, go_sem]) rfl ⟨rfl, by rw [HR.out]; exact HB.out⟩

set_option maxHeartbeats 1000000 in
theorem cmp_tt (A A' : Option Addr) (n c n' c' : Nat) (xs ys : List Nat) (w : World) (h : Sl w w.heap.size A n c xs) (h' : Sl w w.heap.size A' n' c' ys) (hv : vld true xs = true) (hv' : vld true ys = true) :
    Calls Try.prog 35 #[.agg #[.bool true, .slice A n c], .agg #[.bool true, .slice A' n' c']] w (RetC (cmpv (val ys) (val xs)) 0 w) := by
  have Hn := Lib.hid (And.intro (vld_true hv).2.1 (vld_true hv').2.1)
  go_enter Try.func35, Try.ntmps35
  go_wp2_with fail
  generalize hW : World.alloc (World.alloc w _) _ = V0
  obtain ⟨hb, ha, hc⟩ := two_boxes true true A A' n c n' c' xs ys w V0 h h' hW
  have hr0 := ha.bx.lt
  have hr1 := hc.bx.lt
  have HB := Lib.hid hb
  clear hW hb h h'
  generalize hr : w.heap.size = r0 at *
  have HR := Lib.hid hr
  clear hr
  refine (valid_any _ _ _ _ _ xs _ ha.sl (Nat.le_refl _)).mono ?_
  rintro e w1 ⟨rfl, hb1⟩
  have ga := ha.on hb1
  have gc := hc.on hb1
  have HG := Lib.hid (show Below r0 w w1 from below_chain HB.out (by omega) hb1)
  clear ha hc HB hb1
  have k2 := gc.bx.c0
  have k3 := gc.bx.c1
  rw [hv]
  go_wp2_with fail
  clear k2 k3
  refine (valid_any _ _ _ _ _ ys _ gc.sl (Nat.le_refl _)).mono ?_
  rintro e w2 ⟨rfl, hb2⟩
  have ha := ga.on hb2
  have hc := gc.on hb2
  have hr2 := ga.bx.lt
  have HB := Lib.hid (show Below r0 w w2 from below_chain HG.out (by omega) hb2)
  clear ga gc HG hb2
  rw [hv']
  have k0 := ha.bx.c0
  have k1 := ha.bx.c1
  have k2 := hc.bx.c0
  have k3 := hc.bx.c1
  go_wp2_with fail
  refine (cmpMag_any _ _ _ _ _ _ _ _ _ _ _ hc.sl ha.sl Hn.out.2 Hn.out.1).mono ?_
  rintro e w3 ⟨rfl, q, rfl⟩
  go_wp2
  exact bodyPost_ret (v := .tuple #[.int .i64 (cmpv (val ys) (val xs)), .int .i64 0]) (by simp [results, Try.results35, go_sem]) rfl ⟨rfl, by rw [HR.out]; exact below_drewN HB.out _⟩

set_option maxHeartbeats 1000000 in
theorem cmp_ff (A A' : Option Addr) (n c n' c' : Nat) (xs ys : List Nat) (w : World) (h : Sl w w.heap.size A n c xs) (h' : Sl w w.heap.size A' n' c' ys) (hv : vld false xs = true) (hv' : vld false ys = true) :
    Calls Try.prog 35 #[.agg #[.bool false, .slice A n c], .agg #[.bool false, .slice A' n' c']] w (RetC (cmpv (val xs) (val ys)) 0 w) := by
  have Hn := Lib.hid (And.intro (vld_true hv).2.1 (vld_true hv').2.1)
  go_enter Try.func35, Try.ntmps35
  go_wp2_with fail
  generalize hW : World.alloc (World.alloc w _) _ = V0
  obtain ⟨hb, ha, hc⟩ := two_boxes false false A A' n c n' c' xs ys w V0 h h' hW
  have hr0 := ha.bx.lt
  have hr1 := hc.bx.lt
  have HB := Lib.hid hb
  clear hW hb h h'
  generalize hr : w.heap.size = r0 at *
  have HR := Lib.hid hr
  clear hr
  refine (valid_any _ _ _ _ _ xs _ ha.sl (Nat.le_refl _)).mono ?_
  rintro e w1 ⟨rfl, hb1⟩
  have ga := ha.on hb1
  have gc := hc.on hb1
  have HG := Lib.hid (show Below r0 w w1 from below_chain HB.out (by omega) hb1)
  clear ha hc HB hb1
  have k2 := gc.bx.c0
  have k3 := gc.bx.c1
  rw [hv]
  go_wp2_with fail
  clear k2 k3
  refine (valid_any _ _ _ _ _ ys _ gc.sl (Nat.le_refl _)).mono ?_
  rintro e w2 ⟨rfl, hb2⟩
  have ha := ga.on hb2
  have hc := gc.on hb2
  have hr2 := ga.bx.lt
  have HB := Lib.hid (show Below r0 w w2 from below_chain HG.out (by omega) hb2)
  clear ga gc HG hb2
  rw [hv']
  have k0 := ha.bx.c0
  have k1 := ha.bx.c1
  have k2 := hc.bx.c0
  have k3 := hc.bx.c1
  go_wp2_with fail
  refine (cmpMag_any _ _ _ _ _ _ _ _ _ _ _ ha.sl hc.sl Hn.out.1 Hn.out.2).mono ?_
  rintro e w3 ⟨rfl, q, rfl⟩
  go_wp2
  exact bodyPost_ret (v := .tuple #[.int .i64 (cmpv (val xs) (val ys)), .int .i64 0]) (by simp [results, Try.results35, go_sem]) rfl ⟨rfl, by rw [HR.out]; exact below_drewN HB.out _⟩

theorem cmpv_sign (a b : Nat) : cmpv a b = Int.sign ((a : Int) - b) := by
  unfold cmpv
  rcases Nat.lt_trichotomy a b with h | h | h
  · rw [Int.sign_eq_neg_one_of_neg (by omega)]; simp [h]
  · subst h; simp
  · rw [Int.sign_eq_one_of_pos (by omega)]
    rw [if_neg (by omega), if_neg (by omega)]

def cmpZ (ok : Bool) (z : Int) : Int := if ok then Int.sign z else 0
def cmpE (ok : Bool) : Int := if ok then 0 else 1
theorem cmp_any (neg neg' : Bool) (A A' : Option Addr) (n c n' c' : Nat) (xs ys : List Nat) (w : World) (h : Sl w w.heap.size A n c xs) (h' : Sl w w.heap.size A' n' c' ys) :
    Calls Try.prog 35 #[.agg #[.bool neg, .slice A n c], .agg #[.bool neg', .slice A' n' c']] w
      (RetC (cmpZ (vld neg xs && vld neg' ys) (sg neg (val xs) - sg neg' (val ys))) (cmpE (vld neg xs && vld neg' ys)) w) := by
  rcases hv : vld neg xs with _ | _
  · exact cmp_bad1 neg neg' A A' n c n' c' xs ys w h h' hv
  · rcases hv' : vld neg' ys with _ | _
    · exact cmp_bad2 neg neg' A A' n c n' c' xs ys w h h' hv hv'
    · show Calls _ _ _ _ (RetC (Int.sign (sg neg (val xs) - sg neg' (val ys))) 0 w)
      have px : neg = true → 0 < val xs := fun e => val_pos (vld_true hv).2.1 (fun e' => by have := (vld_true hv).2.2 e'; rw [e] at this; cases this)
      have py : neg' = true → 0 < val ys := fun e => val_pos (vld_true hv').2.1 (fun e' => by have := (vld_true hv').2.2 e'; rw [e] at this; cases this)
      cases neg <;> cases neg'
      · have := cmp_ff A A' n c n' c' xs ys w h h' hv hv'
        rwa [cmpv_sign] at this
      · have := cmp_ft A A' n c n' c' xs ys w h h' hv hv'
        rwa [show (1 : Int) = Int.sign (sg false (val xs) - sg true (val ys)) by
          have := py rfl
          rw [sg_true, sg_false, Int.sign_eq_one_of_pos (by omega)]] at this
      · have := cmp_tf A A' n c n' c' xs ys w h h' hv hv'
        rwa [show (-1 : Int) = Int.sign (sg true (val xs) - sg false (val ys)) by
          have := px rfl
          rw [sg_true, sg_false, Int.sign_eq_neg_one_of_neg (by omega)]] at this
      · have := cmp_tt A A' n c n' c' xs ys w h h' hv hv'
        rwa [cmpv_sign, show ((val ys : Int) - val xs) = sg true (val xs) - sg true (val ys) by rw [sg_true, sg_true]; omega] at this

end Go.Proofs.Ytalgcppogjpilaa
