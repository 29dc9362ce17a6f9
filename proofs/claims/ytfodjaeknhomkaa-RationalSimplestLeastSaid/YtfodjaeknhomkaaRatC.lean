/-
  Stage 2: the methods of the rational's calls: a call of an integer's operation, whose first error is kept.
-/
import Derived.Test.YtfodjaeknhomkaaRatV
namespace Go.Proofs.Ytfodjaeknhomkaa
open Go.RowKit
/-- From w to w' nothing changes but what the calls' box p keeps: it is f behind it. -/
structure Kp (w w' : World) (p : Nat) (f : Int) : Prop where
  sl : ∀ A n c xs, Sl w w.heap.size A n c xs → Sl w' w'.heap.size A n c xs
  blk : ∀ g t cs, g ≠ p → Blk w g t cs → Blk w' g t cs
  cl : Blk w' p 72 #[.int .i64 f]
  bel : ∀ B a, Below B a w → B ≤ p → B ≤ w.heap.size → Below B a w'
  size : w.heap.size ≤ w'.heap.size
section
variable {w w' w'' : World} {p : Nat} {f f' : Int}
theorem Kp.trans (h : Kp w w' p f) (k : Kp w' w'' p f') : Kp w w'' p f' :=
  ⟨fun A n c xs s => k.sl A n c xs (h.sl A n c xs s), fun g t cs hg b => k.blk g t cs hg (h.blk g t cs hg b), k.cl, fun B a b h1 h2 => k.bel B a (h.bel B a b h1 h2) h1 (Nat.le_trans h2 h.size), Nat.le_trans h.size k.size⟩
theorem Kp.below (hb : Below w.heap.size w w') (hp : Blk w p 72 #[.int .i64 f]) : Kp w w' p f :=
  ⟨fun _ _ _ _ s => s.on hb, fun _ _ _ _ b => Blk.below b hb (Blk.lt b), Blk.below hp hb (Blk.lt hp), fun _ _ b _ h2 => below_chain b h2 hb, hb.size⟩
theorem Kp.set (hp : Blk w p 72 #[.int .i64 f]) : Kp w (w.setCell ⟨p, 0, none⟩ (.int .i64 f')) p f' := by
  have hs : (w.setCell ⟨p, 0, none⟩ (.int .i64 f')).heap.size = w.heap.size := by simp [World.setCell]
  have hc : w.cell? ⟨p, 0, none⟩ = some (.int .i64 f) := by rw [Blk.cell hp 0]; rfl
  refine ⟨fun A n c xs s => ?_, fun g t cs hg b => Blk.far b (p := ⟨p, 0, none⟩) hg _, ?_, fun B a b h1 _ => b.setCell h1 _, by rw [hs]; exact Nat.le_refl _⟩
  · rw [hs]; exact s.other hc (fun x e => by cases e) _
  · have := Blk.set_ hp 0 (.int .i64 f')
    exact this
theorem Kp.alloc (h : Kp w w' p f) (o : Obj) : Kp w (w'.alloc o) p f := h.trans (Kp.below (below_new _ _) h.cl)
theorem Kp.ret {r : Nat} {g : Bool} {A : Option Addr} {n c : Nat} (h : Kp w w' p f) (hr : Bx w' r g A n c) (hs : w.heap.size ≤ r) (hp : p < w.heap.size) (b : Bool) (v : Value) : Kp w ((w'.setCell ⟨r, 0, none⟩ (.bool b)).setCell ⟨r, 1, none⟩ v) p f := by
  refine ⟨fun A n c xs s => (h.sl A n c xs s).ret hr _ _, fun g t cs hg k => ?_, ?_, fun B a k h1 h2 => below_ret (h.bel B a k h1 h2) (by omega) _ _, by have := h.size; simpa [World.setCell] using this⟩
  · have hlt := Blk.lt k
    have hne : g ≠ r := by omega
    exact Blk.far (Blk.far (h.blk g t cs hg k) (p := ⟨r, 0, none⟩) hne _) (p := ⟨r, 1, none⟩) hne _
  · have hne : p ≠ r := by omega
    exact Blk.far (Blk.far h.cl (p := ⟨r, 0, none⟩) hne _) (p := ⟨r, 1, none⟩) hne _
theorem Kp.rb {r : Nat} {q : RVal} (h : Kp w w' p f) (hr : Rb w r q) (hne : r ≠ p) : Rb w' r q := ⟨h.blk _ _ _ hne hr.bx, h.sl _ _ _ _ hr.sl.1, h.sl _ _ _ _ hr.sl.2⟩
theorem Kp.ba {r : Nat} {neg : Bool} {A : Option Addr} {n c : Nat} {xs : List Nat} (h : Kp w w' p f) (hr : Ba w r neg A n c xs) (hne : r ≠ p) : Ba w' r neg A n c xs := ⟨h.blk _ _ _ hne hr.bx, h.sl _ _ _ _ hr.sl⟩
end
/-- What keep makes of the error e behind the error f. -/
def Kf (f e f' : Int) : Prop := f = 0 ∧ f' = e ∨ f ≠ 0 ∧ f' = f
/-- What a method hands back: the integer z, and f in the box of the calls. -/
def RetM (z f : Int) (p : Nat) (w : World) (e : Ending) (w' : World) : Prop := ∃ neg A n c xs, e = .returned (.agg #[.bool neg, .slice A n c]) ∧ Sl w' w'.heap.size A n c xs ∧ ov neg xs = some z ∧ Kp w w' p f
theorem keep_first (neg : Bool) (A : Option Addr) (n c p : Nat) (xs : List Nat) (er z : Int) (w : World) (h : Sl w w.heap.size A n c xs) (hp : Blk w p 72 #[.int .i64 0]) (hz : ov neg xs = some z) :
    Calls Try.prog 44 #[.pointer (some ⟨p, 0, none⟩), .agg #[.bool neg, .slice A n c], .int .i64 er] w (RetM z er p w) := by
  have HZ := Lib.hid hz
  clear hz
  have b1 := Blk.alloc (Blk.alloc hp (.cells #[.bool neg, .slice A n c] 26)) (.cells #[.bool false, .slice none 0 0] 26)
  have k0 : ((w.alloc (.cells #[.bool neg, .slice A n c] 26)).alloc (.cells #[.bool false, .slice none 0 0] 26)).cell? ⟨p, 0, none⟩ = some (.int .i64 0) := by rw [Blk.cell b1 0]; rfl
  have k1 := Blk.frozen b1 0
  have hlt := Blk.lt hp
  have HK := Lib.hid (((Kp.set (f' := er) hp).alloc (.cells #[.bool neg, .slice A n c] 26)).alloc (.cells #[.bool neg, .slice A n c] 26))
  have HP := Lib.hid hp
  have B1 := Lib.hid b1
  have HS := Lib.hid h
  clear hp b1 h
  go_enter Try.func44, Try.ntmps44
  go_wp2
  refine bodyPost_ret (v := .agg #[.bool neg, .slice A n c]) (by simp [results, Try.results44, go_sem]) rfl ?_
  exact ⟨neg, A, n, c, xs, rfl, (HK.out).sl _ _ _ _ HS.out, HZ.out, HK.out⟩
theorem keep_later (neg : Bool) (A : Option Addr) (n c p : Nat) (xs : List Nat) (er z : Int) (w : World) (h : Sl w w.heap.size A n c xs) (f : Int) (hp : Blk w p 72 #[.int .i64 f]) (hf : f ≠ 0) (hz : ov neg xs = some z) :
    Calls Try.prog 44 #[.pointer (some ⟨p, 0, none⟩), .agg #[.bool neg, .slice A n c], .int .i64 er] w (RetM z f p w) := by
  have HZ := Lib.hid hz
  clear hz
  have b1 := Blk.alloc (Blk.alloc hp (.cells #[.bool neg, .slice A n c] 26)) (.cells #[.bool false, .slice none 0 0] 26)
  have k0 : ((w.alloc (.cells #[.bool neg, .slice A n c] 26)).alloc (.cells #[.bool false, .slice none 0 0] 26)).cell? ⟨p, 0, none⟩ = some (.int .i64 f) := by rw [Blk.cell b1 0]; rfl
  have k1 := Blk.frozen b1 0
  have hlt := Blk.lt hp
  have hf0 : (f == 0) = false := by rw [beq_eq_false_iff_ne]; exact hf
  have hf1 : (f != 0) = true := by simpa [bne] using hf0
  have HK := Lib.hid ((((Kp.below (Below.refl _ _) hp)).alloc (.cells #[.bool neg, .slice A n c] 26)).alloc (.cells #[.bool neg, .slice A n c] 26))
  have HP := Lib.hid hp
  have B1 := Lib.hid b1
  have HS := Lib.hid h
  clear hp b1 h hf
  go_enter Try.func44, Try.ntmps44
  go_wp2
  refine bodyPost_ret (v := .agg #[.bool neg, .slice A n c]) (by simp [results, Try.results44, go_sem]) rfl ?_
  exact ⟨neg, A, n, c, xs, rfl, (HK.out).sl _ _ _ _ HS.out, HZ.out, HK.out⟩
theorem keep_any (neg : Bool) (A : Option Addr) (n c p : Nat) (xs : List Nat) (er z f f' : Int) (w : World) (h : Sl w w.heap.size A n c xs) (hp : Blk w p 72 #[.int .i64 f]) (hz : ov neg xs = some z) (hf : Kf f er f') :
    Calls Try.prog 44 #[.pointer (some ⟨p, 0, none⟩), .agg #[.bool neg, .slice A n c], .int .i64 er] w (RetM z f' p w) := by
  rcases hf with ⟨rfl, rfl⟩ | ⟨h0, rfl⟩
  · exact keep_first neg A n c p xs f' z w h hp hz
  · exact keep_later neg A n c p xs er z w h f' hp h0 hz
theorem cadd_any (neg neg' : Bool) (A A' : Option Addr) (n c n' c' p : Nat) (xs ys : List Nat) (a b f f' : Int) (w : World) (h : Sl w w.heap.size A n c xs) (h' : Sl w w.heap.size A' n' c' ys) (hx : ov neg xs = some a) (hy : ov neg' ys = some b)
    (hp : Blk w p 72 #[.int .i64 f]) (hf : Kf f (fitE (a + b)) f') :
    Calls Try.prog 26 #[.pointer (some ⟨p, 0, none⟩), .agg #[.bool neg, .slice A n c], .agg #[.bool neg', .slice A' n' c']] w (RetM (fitZ (a + b)) f' p w) := by
  have C0 : ∀ w : World, Sl w w.heap.size A n c xs → Sl w w.heap.size A' n' c' ys → Calls Try.prog 45 #[.agg #[.bool neg, .slice A n c], .agg #[.bool neg', .slice A' n' c']] w (RetIE (fitZ (a + b)) (fitE (a + b)) w) := by
    intro w h h'
    have := add_ov (neg := neg) (neg' := neg') h h'
    rw [hx, hy] at this
    exact this
  have hz9 := fitZ_lt (a + b)
  generalize fitZ (a + b) = z at *
  generalize fitE (a + b) = er at *
  have HC := Lib.hid C0
  have HF := Lib.hid hf
  have HP := Lib.hid hp
  have HS := Lib.hid h
  have HS' := Lib.hid h'
  have HZ := Lib.hid hz9
  have hlt := Blk.lt hp
  clear C0 hf hp h h' hx hy hz9
  go_enter Try.func26, Try.ntmps26
  go_wp2_with fail
  generalize hW : World.alloc (World.alloc (World.alloc w _) _) _ = V
  have hb : Below w.heap.size w V := by rw [← hW]; exact (((Below.refl _ _).alloc (Nat.le_refl _) _).alloc (by simp) _).alloc (by simp; omega) _
  have rb : Bx V (w.heap.size + 1 + 1) false none 0 0 := by
    rw [← hW]
    have := Bx.new ((w.alloc (.cells #[.bool neg, .slice A n c] 26)).alloc (.cells #[.bool neg', .slice A' n' c'] 26)) false none 0 0
    simpa using this
  have HB := Lib.hid hb
  clear hW hb
  refine (HC.out V (HS.out.on HB.out) (HS'.out.on HB.out)).mono ?_
  rintro e w1 ⟨A1, n1, c1, xs1, rfl, hs1, hx1, hv1, hb1⟩
  have HO := Lib.hid (ov_res hs1.ok hx1 hv1 HZ.out)
  have K1 := Lib.hid ((Kp.below HB.out HP.out).trans (Kp.below hb1 (Blk.below HP.out HB.out (Blk.lt HP.out))))
  have rb1 := rb.below hb1 rb.lt
  have lt1 := rb1.lt
  have HS1 := Lib.hid hs1
  clear hb1 hv1 hx1 rb hs1
  go_wp2_with fail
  refine (keep_any _ _ _ _ p _ _ _ f f' w1 HS1.out K1.out.cl HO.out HF.out).mono ?_
  rintro e w2 ⟨neg2, A2, n2, c2, xs2, rfl, hs2, ho2, hk2⟩
  have hne : w.heap.size + 1 + 1 ≠ p := by omega
  have rb2 : Bx w2 (w.heap.size + 1 + 1) false none 0 0 := hk2.blk _ _ _ hne rb1
  have K2 := Lib.hid (K1.out.trans hk2)
  have HR := Lib.hid (And.intro hs2 ho2)
  have RB := Lib.hid rb2
  have j0 := rb2.c0
  have j1 := rb2.c1
  have j2 := rb2.f 0
  have j3 := rb2.f 1
  clear hk2 hs2 ho2 rb2 rb1 lt1 hne
  go_wp2
  refine bodyPost_ret (v := .agg #[.bool neg2, .slice A2 n2 c2]) (by simp [results, Try.results26, go_sem, j0, j1]) rfl ?_
  exact ⟨neg2, A2, n2, c2, xs2, rfl, HR.out.1.ret RB.out _ _, HR.out.2, K2.out.ret RB.out (by omega) hlt _ _⟩
theorem csub_any (neg neg' : Bool) (A A' : Option Addr) (n c n' c' p : Nat) (xs ys : List Nat) (a b f f' : Int) (w : World) (h : Sl w w.heap.size A n c xs) (h' : Sl w w.heap.size A' n' c' ys) (hx : ov neg xs = some a) (hy : ov neg' ys = some b)
    (hp : Blk w p 72 #[.int .i64 f]) (hf : Kf f (fitE (a - b)) f') :
    Calls Try.prog 41 #[.pointer (some ⟨p, 0, none⟩), .agg #[.bool neg, .slice A n c], .agg #[.bool neg', .slice A' n' c']] w (RetM (fitZ (a - b)) f' p w) := by
  have C0 : ∀ w : World, Sl w w.heap.size A n c xs → Sl w w.heap.size A' n' c' ys → Calls Try.prog 67 #[.agg #[.bool neg, .slice A n c], .agg #[.bool neg', .slice A' n' c']] w (RetIE (fitZ (a - b)) (fitE (a - b)) w) := by
    intro w h h'
    have := sub_ov (neg := neg) (neg' := neg') h h'
    rw [hx, hy] at this
    exact this
  have hz9 := fitZ_lt (a - b)
  generalize fitZ (a - b) = z at *
  generalize fitE (a - b) = er at *
  have HC := Lib.hid C0
  have HF := Lib.hid hf
  have HP := Lib.hid hp
  have HS := Lib.hid h
  have HS' := Lib.hid h'
  have HZ := Lib.hid hz9
  have hlt := Blk.lt hp
  clear C0 hf hp h h' hx hy hz9
  go_enter Try.func41, Try.ntmps41
  go_wp2_with fail
  generalize hW : World.alloc (World.alloc (World.alloc w _) _) _ = V
  have hb : Below w.heap.size w V := by rw [← hW]; exact (((Below.refl _ _).alloc (Nat.le_refl _) _).alloc (by simp) _).alloc (by simp; omega) _
  have rb : Bx V (w.heap.size + 1 + 1) false none 0 0 := by
    rw [← hW]
    have := Bx.new ((w.alloc (.cells #[.bool neg, .slice A n c] 26)).alloc (.cells #[.bool neg', .slice A' n' c'] 26)) false none 0 0
    simpa using this
  have HB := Lib.hid hb
  clear hW hb
  refine (HC.out V (HS.out.on HB.out) (HS'.out.on HB.out)).mono ?_
  rintro e w1 ⟨A1, n1, c1, xs1, rfl, hs1, hx1, hv1, hb1⟩
  have HO := Lib.hid (ov_res hs1.ok hx1 hv1 HZ.out)
  have K1 := Lib.hid ((Kp.below HB.out HP.out).trans (Kp.below hb1 (Blk.below HP.out HB.out (Blk.lt HP.out))))
  have rb1 := rb.below hb1 rb.lt
  have lt1 := rb1.lt
  have HS1 := Lib.hid hs1
  clear hb1 hv1 hx1 rb hs1
  go_wp2_with fail
  refine (keep_any _ _ _ _ p _ _ _ f f' w1 HS1.out K1.out.cl HO.out HF.out).mono ?_
  rintro e w2 ⟨neg2, A2, n2, c2, xs2, rfl, hs2, ho2, hk2⟩
  have hne : w.heap.size + 1 + 1 ≠ p := by omega
  have rb2 : Bx w2 (w.heap.size + 1 + 1) false none 0 0 := hk2.blk _ _ _ hne rb1
  have K2 := Lib.hid (K1.out.trans hk2)
  have HR := Lib.hid (And.intro hs2 ho2)
  have RB := Lib.hid rb2
  have j0 := rb2.c0
  have j1 := rb2.c1
  have j2 := rb2.f 0
  have j3 := rb2.f 1
  clear hk2 hs2 ho2 rb2 rb1 lt1 hne
  go_wp2
  refine bodyPost_ret (v := .agg #[.bool neg2, .slice A2 n2 c2]) (by simp [results, Try.results41, go_sem, j0, j1]) rfl ?_
  exact ⟨neg2, A2, n2, c2, xs2, rfl, HR.out.1.ret RB.out _ _, HR.out.2, K2.out.ret RB.out (by omega) hlt _ _⟩
theorem cmul_any (neg neg' : Bool) (A A' : Option Addr) (n c n' c' p : Nat) (xs ys : List Nat) (a b f f' : Int) (w : World) (h : Sl w w.heap.size A n c xs) (h' : Sl w w.heap.size A' n' c' ys) (hx : ov neg xs = some a) (hy : ov neg' ys = some b)
    (hp : Blk w p 72 #[.int .i64 f]) (hf : Kf f (fitE (a * b)) f') :
    Calls Try.prog 27 #[.pointer (some ⟨p, 0, none⟩), .agg #[.bool neg, .slice A n c], .agg #[.bool neg', .slice A' n' c']] w (RetM (fitZ (a * b)) f' p w) := by
  have C0 : ∀ w : World, Sl w w.heap.size A n c xs → Sl w w.heap.size A' n' c' ys → Calls Try.prog 46 #[.agg #[.bool neg, .slice A n c], .agg #[.bool neg', .slice A' n' c']] w (RetIE (fitZ (a * b)) (fitE (a * b)) w) := by
    intro w h h'
    have := mul_ov (neg := neg) (neg' := neg') h h'
    rw [hx, hy] at this
    exact this
  have hz9 := fitZ_lt (a * b)
  generalize fitZ (a * b) = z at *
  generalize fitE (a * b) = er at *
  have HC := Lib.hid C0
  have HF := Lib.hid hf
  have HP := Lib.hid hp
  have HS := Lib.hid h
  have HS' := Lib.hid h'
  have HZ := Lib.hid hz9
  have hlt := Blk.lt hp
  clear C0 hf hp h h' hx hy hz9
  go_enter Try.func27, Try.ntmps27
  go_wp2_with fail
  generalize hW : World.alloc (World.alloc (World.alloc w _) _) _ = V
  have hb : Below w.heap.size w V := by rw [← hW]; exact (((Below.refl _ _).alloc (Nat.le_refl _) _).alloc (by simp) _).alloc (by simp; omega) _
  have rb : Bx V (w.heap.size + 1 + 1) false none 0 0 := by
    rw [← hW]
    have := Bx.new ((w.alloc (.cells #[.bool neg, .slice A n c] 26)).alloc (.cells #[.bool neg', .slice A' n' c'] 26)) false none 0 0
    simpa using this
  have HB := Lib.hid hb
  clear hW hb
  refine (HC.out V (HS.out.on HB.out) (HS'.out.on HB.out)).mono ?_
  rintro e w1 ⟨A1, n1, c1, xs1, rfl, hs1, hx1, hv1, hb1⟩
  have HO := Lib.hid (ov_res hs1.ok hx1 hv1 HZ.out)
  have K1 := Lib.hid ((Kp.below HB.out HP.out).trans (Kp.below hb1 (Blk.below HP.out HB.out (Blk.lt HP.out))))
  have rb1 := rb.below hb1 rb.lt
  have lt1 := rb1.lt
  have HS1 := Lib.hid hs1
  clear hb1 hv1 hx1 rb hs1
  go_wp2_with fail
  refine (keep_any _ _ _ _ p _ _ _ f f' w1 HS1.out K1.out.cl HO.out HF.out).mono ?_
  rintro e w2 ⟨neg2, A2, n2, c2, xs2, rfl, hs2, ho2, hk2⟩
  have hne : w.heap.size + 1 + 1 ≠ p := by omega
  have rb2 : Bx w2 (w.heap.size + 1 + 1) false none 0 0 := hk2.blk _ _ _ hne rb1
  have K2 := Lib.hid (K1.out.trans hk2)
  have HR := Lib.hid (And.intro hs2 ho2)
  have RB := Lib.hid rb2
  have j0 := rb2.c0
  have j1 := rb2.c1
  have j2 := rb2.f 0
  have j3 := rb2.f 1
  clear hk2 hs2 ho2 rb2 rb1 lt1 hne
  go_wp2
  refine bodyPost_ret (v := .agg #[.bool neg2, .slice A2 n2 c2]) (by simp [results, Try.results27, go_sem, j0, j1]) rfl ?_
  exact ⟨neg2, A2, n2, c2, xs2, rfl, HR.out.1.ret RB.out _ _, HR.out.2, K2.out.ret RB.out (by omega) hlt _ _⟩
end Go.Proofs.Ytfodjaeknhomkaa
