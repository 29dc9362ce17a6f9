/-
 Stage 2: the reference's integer arithmetic by values. Stage 2: a list of integers that the call itself makes by append: its row, whose cells are no limbs, and what its elements are. Stage 2: the program's negative and Simplest. Stage 2: the reference's negative, lowest, Make and Of. Stage 2: the reference's Make, Of and the test of two numbers. Stage 2: Simplest of two rationals, of which the first one is less. Stage 2: RationalOrder, its walk. Stage 2: Simplest by values: what lies strictly between two rationals, with the least terms, and the same turned round.
-/
import Derived.Maps.AppendAt
import Derived.Laws.Tables
import Derived.Test.YtphinlongdoedaaGreatRatZi
import Derived.Test.YtphinlongdoedaaGreatBaseG
import Derived.Test.YtphinlongdoedaaGreatRatY
import Derived.Test.YtphinlongdoedaaGreatRatCm
namespace Go.Proofs.YtphinlongdoedaaGreat
open Go.RowKit
theorem bch {r : Nat} {w w1 w2 : World} (h : Below r w w1) (hr : w.heap.size = r) (hb : Below w1.heap.size w1 w2) : Below r w w2 := zA h (by have := h.size; omega) hb
theorem Rb.cs {w : World} {r : Nat} {q : RVal} (h : Rb w r q) : w.cell? ⟨r, 0, none⟩ = some (.bool q.g) /\ w.cell? ⟨r, 1, none⟩ = some (.slice q.A q.n q.c) /\ w.cell? ⟨r, 2, none⟩ = some (.bool q.gd) /\ w.cell? ⟨r, 3, none⟩ = some (.slice q.Ad q.nd q.cd) := ⟨h.c0, h.c1, h.c2, h.c3⟩
theorem Rb.fs {w : World} {r : Nat} {q : RVal} (h : Rb w r q) : w.frozen? ⟨r, 0, none⟩ = false /\ w.frozen? ⟨r, 1, none⟩ = false /\ w.frozen? ⟨r, 2, none⟩ = false /\ w.frozen? ⟨r, 3, none⟩ = false := ⟨h.f 0, h.f 1, h.f 2, h.f 3⟩
section
variable {w : World} {r n c : Nat} {g : Bool} {A : Option Addr} {xs : List Nat}
theorem Ba.cs (h : Ba w r g A n c xs) : w.cell? ⟨r, 0, none⟩ = some (.bool g) /\ w.cell? ⟨r, 1, none⟩ = some (.slice A n c) := ⟨h.bx.c0, h.bx.c1⟩
theorem Ba.fs (h : Ba w r g A n c xs) : w.frozen? ⟨r, 0, none⟩ = false /\ w.frozen? ⟨r, 1, none⟩ = false := ⟨h.bx.f 0, h.bx.f 1⟩
end
def RetZE (z er : Int) (w : World) (e : Ending) (w' : World) : Prop := ∃ g A n c xs, e = .returned (.tuple #[.agg #[.bool g, .slice A n c], .int .i64 er]) /\ Sl w' w'.heap.size A n c xs /\ ov g xs = some z /\ Below w.heap.size w w'
def RetZ2 (z z2 er : Int) (w : World) (e : Ending) (w' : World) : Prop := ∃ g A n c xs g' A' n' c' ys, e = .returned (.tuple #[.agg #[.bool g, .slice A n c], .agg #[.bool g', .slice A' n' c'], .int .i64 er]) /\ Sl w' w'.heap.size A n c xs /\ ov g xs = some z /\ Sl w' w'.heap.size A' n' c' ys /\ ov g' ys = some z2 /\ Below w.heap.size w w'
theorem zB0.ze {z er : Int} {w : World} {e : Ending} {w' : World} (hz : z.natAbs < BIG) (h : zB0 z er w e w') : RetZE z er w e w' := by
 obtain ⟨A, n, c, xs, rfl, hs, hx, hv, hb⟩ := h
 exact ⟨_, A, n, c, xs, rfl, hs, zD5 hs.ok hx hv hz, hb⟩
theorem zF2.z2 {z z2 er : Int} {w : World} {e : Ending} {w' : World} (hz : z.natAbs < BIG) (hz2 : z2.natAbs < BIG) (h : zF2 z z2 er w e w') : RetZ2 z z2 er w e w' := by
 obtain ⟨A, n, c, xs, A', n', c', ys, rfl, hs, hx, hv, hs', hx', hv', hb⟩ := h
 exact ⟨_, A, n, c, xs, _, A', n', c', ys, rfl, hs, zD5 hs.ok hx hv hz, hs', zD5 hs'.ok hx' hv' hz2, hb⟩
theorem ov_flip {w : World} {B n c : Nat} {A : Option Addr} {g : Bool} {xs : List Nat} {z : Int} (h : Sl w B A n c xs) (o : ov g xs = some z) (hz : z ≠ 0) : ov (!g) xs = some (-z) := by
 have p := zG1 o
 have s := zK2 o
 have k := zD5 (z := -z) h.ok p.1 (by rw [Int.natAbs_neg]; exact p.2.1) (by rw [Int.natAbs_neg]; exact zE7 h.ok o)
 have e : decide (-z < 0) = !g := by
  rw [<- s]
  by_cases hn : z < 0
  . rw [decide_eq_true hn, decide_eq_false (by omega)]; rfl
  . rw [decide_eq_false hn, decide_eq_true (by omega)]; rfl
 rwa [e] at k
theorem zG5 {w : World} {B n c : Nat} {A : Option Addr} {g : Bool} {xs : List Nat} {z : Int} (h : Sl w B A n c xs) (o : ov g xs = some z) : decide (n = 0) = decide (z = 0) := by
 have hp := zG1 o
 have hl := h.len
 by_cases h0 : z = 0
 . have hx : xs = [] := by
    rcases he : xs with _ | ⟨y, ys⟩
    . rfl
    . have := zB4 hp.1 (by rw [he]; simp)
      rw [hp.2.1, h0] at this
      simp at this
   rw [hx] at hl
   simp at hl
   rw [decide_eq_true h0, decide_eq_true (by omega)]
 . have : n ≠ 0 := by
    intro e
    have : xs = [] := List.eq_nil_of_length_eq_zero (by rw [hl]; omega)
    rw [this] at hp
    have := hp.2.1
    simp [val] at this
    omega
   rw [decide_eq_false h0, decide_eq_false this]
section
variable {g g' : Bool} {A A' : Option Addr} {n c n' c' : Nat} {xs ys : List Nat} {w : World} {a b : Int}
theorem zI2 {g : Bool} {xs : List Nat} {z : Int} (o : ov g xs = some z) : vld g xs = true /\ sg g (val xs) = z := by
 have p := zG1 o
 rw [zE4 p.2.2] at o
 exact ⟨p.2.2, Option.some.inj o⟩
theorem rmul_z (h : Sl w w.heap.size A n c xs) (h' : Sl w w.heap.size A' n' c' ys) (hx : ov g xs = some a) (hy : ov g' ys = some b) :
 Calls Tryz.prog 52 #[.agg #[.bool g, .slice A n c], .agg #[.bool g', .slice A' n' c']] w (RetZE (fitZ (a * b)) (fitE (a * b)) w) := by
 have C := rmul_any g g' A A' n c n' c' xs ys w h h'
 rw [(zI2 hx).1, (zI2 hy).1, (zI2 hx).2, (zI2 hy).2] at C
 exact C.mono fun _ _ k => zB0.ze (zM7 _) k
theorem radd_z (h : Sl w w.heap.size A n c xs) (h' : Sl w w.heap.size A' n' c' ys) (hx : ov g xs = some a) (hy : ov g' ys = some b) :
 Calls Tryz.prog 51 #[.agg #[.bool g, .slice A n c], .agg #[.bool g', .slice A' n' c']] w (RetZE (fitZ (a + b)) (fitE (a + b)) w) := by
 have C := radd_any g g' A A' n c n' c' xs ys w h h'
 rw [(zI2 hx).1, (zI2 hy).1, (zI2 hx).2, (zI2 hy).2] at C
 exact C.mono fun _ _ k => zB0.ze (zM7 _) k
theorem rsub_z (h : Sl w w.heap.size A n c xs) (h' : Sl w w.heap.size A' n' c' ys) (hx : ov g xs = some a) (hy : ov g' ys = some b) :
 Calls Tryz.prog 53 #[.agg #[.bool g, .slice A n c], .agg #[.bool g', .slice A' n' c']] w (RetZE (fitZ (a - b)) (fitE (a - b)) w) := by
 have C := rsub_any g g' A A' n c n' c' xs ys w h h'
 rw [(zI2 hx).1, (zI2 hy).1, (zI2 hx).2, (zI2 hy).2] at C
 exact C.mono fun _ _ k => zB0.ze (zM7 _) k
theorem rcmp_z (h : Sl w w.heap.size A n c xs) (h' : Sl w w.heap.size A' n' c' ys) (hx : ov g xs = some a) (hy : ov g' ys = some b) (u : Int) (hu : Int.sign (a - b) = u) :
 Calls Tryz.prog 49 #[.agg #[.bool g, .slice A n c], .agg #[.bool g', .slice A' n' c']] w (RetC u 0 w) := by
 have C := rcmp_any g g' A A' n c n' c' xs ys w h h'
 rw [(zI2 hx).1, (zI2 hy).1, (zI2 hx).2, (zI2 hy).2, show cmpZ (true && true) (a - b) = u from hu] at C
 exact C
theorem zT0 (h : Sl w w.heap.size A n c xs) (h' : Sl w w.heap.size A' n' c' ys) (hx : ov g xs = some a) (hy : ov g' ys = some b) (hb : b ≠ 0) (q r : Int) (hq : fq a b = q) (hr : fr a b = r) (bq : q.natAbs < BIG) :
 Calls Tryz.prog 48 #[.agg #[.bool g, .slice A n c], .agg #[.bool g', .slice A' n' c']] w (RetZ2 q r 0 w) := by
 have C := rdivMod_ov (neg := g) (neg' := g') h h'
 rw [hx, hy, zH7, zL8, zN5, if_neg hb, if_neg hb, if_neg hb, hq, hr] at C
 have s := zQ2 a b hb
 have l := zE7 h'.ok hy
 exact C.mono fun _ _ k => zF2.z2 bq (by rw [<- hr]; have := s.2.1; omega) k
theorem rof_z (n : Int) (w : World) (h1 : -9223372036854775808 <= n) (h2 : n <= 9223372036854775807) : Calls Tryz.prog 24 #[.int .i64 n] w (RetN n w) :=
 (rof_any n w h1 h2).mono fun _ _ k => k.n (big_small h1 h2)
end
end Go.Proofs.YtphinlongdoedaaGreat
namespace Go.Proofs.YtphinlongdoedaaGreat
open Go.RowKit
def NoInt (u : Value) : Prop := ∀ k x, u ≠ .int k x
structure OwnC (w : World) (base : Nat) (e : TypeId) (size : Nat) (v : Value) (n : Nat) (xs : List Value) : Prop where
 own : w.ownsRow base e size v n xs
 clean : ∀ g cur, v.ownBlock = some g -> w.heap[g]? = some (.cells cur e (0, 0)) -> ∀ u ∈ cur.toList, NoInt u
section
variable {w w' : World} {base size n : Nat} {e : TypeId} {v : Value} {xs : List Value}
theorem OwnC.nil (w : World) (base : Nat) (e : TypeId) (size : Nat) : OwnC w base e size (.slice none 0 0) 0 [] := ⟨World.ownsRow_nil w base e size, fun g cur h => by cases h⟩
theorem OwnC.keep (h : OwnC w base e size v n xs) {row : Option Nat} (hg : w.grownBy w' row) (hne : v.ownBlock = none \/ v.ownBlock ≠ row) : OwnC w' base e size v n xs := by
 refine ⟨h.own.kept hg hne, fun g cur h1 h2 => h.clean g cur h1 ?_⟩
 have l := (h.own.lt g h1).2
 rw [<- hg.block g l (by rcases hne with k | k <;> rw [h1] at k <;> first | cases k | exact k)]
 exact h2
theorem OwnC.below (h : OwnC w base e size v n xs) (hb : Below w.heap.size w w') : OwnC w' base e size v n xs :=
 h.keep (row := none) ⟨hb.os, hb.tape, hb.output, hb.size, fun k hk _ => hb.block k hk⟩ (by cases v.ownBlock <;> simp)
theorem OwnC.drew (h : OwnC w base e size v n xs) : OwnC w.drew base e size v n xs := ⟨h.own, h.clean⟩
theorem OwnC.setCell (h : OwnC w base e size v n xs) {p : Addr} (hp : ∀ g, v.ownBlock = some g -> g ≠ p.block) (u : Value) : OwnC (w.setCell p u) base e size v n xs := by
 refine h.keep (row := some p.block) ⟨rfl, rfl, rfl, by simp [World.setCell], fun k _ hk => Below.heap_setCell w p u k (fun e => hk (by rw [e]))⟩ ?_
 rcases k : v.ownBlock with _ | g
 . exact Or.inl rfl
 . exact Or.inr (fun e => hp g k (by injection e))
theorem Sl.rowC {A : Option Addr} {m c : Nat} {ys : List Nat} (h : Sl w w.heap.size A m c ys) (o : OwnC w base e size v n xs) (hg : w.grownBy w' v.ownBlock) : Sl w' w'.heap.size A m c ys := by
 refine ⟨h.cap, h.reach, h.capr, h.nil_, ⟨h.reads.1, fun hm => ?_⟩, h.ok⟩
 obtain ⟨ad, hA, hb, hc⟩ := h.reads.2 hm
 refine ⟨ad, hA, Nat.lt_of_lt_of_le hb hg.size, fun j u hu => ?_⟩
 have k := hc j u hu
 rw [World.cell?_of_block (w := w) (hg.block (ad.add j).block (by rw [zE2]; exact hb) (fun q => ?_))]
 . exact k
 . rw [zE2] at q
   have l := (o.own.lt _ q.symm).2
   rcases o.own.2 with ⟨rfl, _⟩ | ⟨g, cap, cur, rfl, _, hgg, _⟩
   . cases q
   . have hgb : g = ad.block := by simpa [Value.ownBlock] using q.symm
     subst hgb
     have cl := o.clean _ cur rfl hgg
     obtain ⟨x, hx⟩ : ∃ x, u = .int .u32 x := by
      have := List.mem_of_getElem? hu
      simp only [us, List.mem_map] at this
      obtain ⟨y, _, rfl⟩ := this
      exact ⟨_, rfl⟩
     have kc : w.cell? (ad.add j) = some (.int .u32 x) := by rw [<- hx]; exact k
     have hi : cur[(ad.add j).off]? = some (.int .u32 x) := by
      unfold World.cell? at kc
      rw [zE2, hgg] at kc
      dsimp only at kc
      split at kc
      . cases kc
      . exact kc
     exact cl (.int .u32 x) (by rw [<- Array.getElem?_toList] at hi; exact List.mem_of_getElem? hi) .u32 x rfl
theorem zero_clean {z : Array Value} (hz : ∀ j, j < z.size -> NoInt z[j]!) (hs : 0 < z.size) (k : Nat) : ∀ u ∈ (Builtin.zeroCells z k).toList, NoInt u := by
 intro u hu
 unfold Builtin.zeroCells at hu
 rw [Array.toList_map, List.mem_map] at hu
 obtain ⟨i, _, rfl⟩ := hu
 exact hz _ (Nat.mod_lt _ hs)
theorem zR3 {P : Program} (t ty : TypeId) (i : TypeInfo) (z : Value) (bytes : Nat) (ht : P.underlying t = some (.slice e)) (hi : P.info? e = some i) (hz : i.zero = some z)
 (hsize : i.size = size) (hby : i.bytes = bytes) (hzs : z.cells.size = size) (hsz : 0 < size) (hown : OwnC w base e size v n xs)
 (a : Addr) (c : Nat) (news : List Value) (hl : news.length = 1 * size) (hnews : ∀ j u, news[j]? = some u -> w.cell? (a.add j) = some u) (h1 : ∀ u ∈ news, u.oneCell' = true)
 (hzc : ∀ j, j < z.cells.size -> NoInt z.cells[j]!) (hnc : ∀ u ∈ news, NoInt u) (h63 : n + 1 <= maxLen) (hbytes : (n + 1) * bytes <= 140737488355328) (hbase : base <= w.heap.size) :
 ∃ v' w', (Builtin.append_ #[t, t] ty #[v, .slice (some a) 1 c]).run P w = .ok v' w' /\ OwnC w' base e size v' (n + 1) (xs ++ news) /\ w.grownBy w' v.ownBlock /\ (v'.ownBlock = v.ownBlock \/ v'.ownBlock = some w.heap.size) := by
 obtain ⟨v', w', hr, h2, h3, _, h5⟩ := run_append_own_at (P := P) w base t ty e i z size bytes ht hi hz hsize hby hzs hsz v n xs hown.own a 1 c news hl hnews h1 h63 hbytes hbase
 refine ⟨v', w', hr, ⟨h2, ?_⟩, h3, h5⟩
 subst hsize
 subst hby
 have hsmall : n + 1 <= 9223372036854775807 := by simp only [maxLen] at h63; omega
 intro g cur hvg hcur u hu
 rcases hown.own.2 with ⟨rfl, rfl⟩ | ⟨g0, cap, cur0, rfl, hbg, hg, hnc0, hcm, hcs, htake⟩
 . have k := run_append_nil (P := P) w t ty e i z ht hi hz a 1 c news hl hnews (by omega) (by omega) (by omega)
   rw [hr] at k
   injection k with k1 k2
   subst k1
   subst k2
   have e1 : g = w.heap.size := by simpa [Value.ownBlock] using hvg.symm
   subst e1
   have k3 := heap_alloc_new w.drew (.cells (news.toArray ++ Builtin.zeroCells z.cells (grownCap w 1 0 e - 1)) e)
   have k4 : some (Obj.cells cur e (0, 0)) = some (.cells (news.toArray ++ Builtin.zeroCells z.cells (grownCap w 1 0 e - 1)) e) := hcur.symm.trans k3
   injection k4 with k5
   injection k5 with k6
   subst k6
   rw [Array.toList_append] at hu
   rcases List.mem_append.1 hu with m | m
   . exact hnc u m
   . exact zero_clean hzc (by omega) _ u m
 . by_cases hroom : n + 1 <= cap
   . have hfit : n * i.size + news.length <= cur0.size := by rw [hl, hcs, <- Nat.add_mul]; exact Nat.mul_le_mul_right _ hroom
     have k := run_append_room (P := P) w t ty e i ht hi g0 n cap cur0 hg a 1 c news hl hnews h1 hroom hfit
     rw [hr] at k
     injection k with k1 k2
     subst k1
     subst k2
     have e1 : g = g0 := by simpa [Value.ownBlock] using hvg.symm
     subst e1
     have k3 := setRow_heap w g cur0 (cur0.toList.take (n * i.size) ++ news ++ cur0.toList.drop (n * i.size + news.length)).toArray e _ hg
     rw [hcur] at k3
     injection k3 with k5
     injection k5 with k6
     subst k6
     have cl := hown.clean g cur0 rfl hg
     rcases List.mem_append.1 hu with m | m
     . rcases List.mem_append.1 m with m | m
       . exact cl u (List.mem_of_mem_take m)
       . exact hnc u m
     . exact cl u (List.mem_of_mem_drop m)
   . have holds : ∀ j u, xs[j]? = some u -> w.cell? ((⟨g0, 0, none⟩ : Addr).add j) = some u := hown.own.cells (g := g0) rfl
     have k := run_append_grow (P := P) w t ty e i z ht hi hz ⟨g0, 0, none⟩ n cap xs hown.own.1 holds a 1 c news hl hnews (by omega) (by omega) (growslice_fits (by omega) hbytes)
     rw [hr] at k
     injection k with k1 k2
     subst k1
     subst k2
     have e1 : g = w.heap.size := by simpa [Value.ownBlock] using hvg.symm
     subst e1
     have k3 := heap_alloc_new w.drew (.cells (xs.toArray ++ news.toArray ++ Builtin.zeroCells z.cells (grownCap w (n + 1) cap e - (n + 1))) e)
     have k4 : some (Obj.cells cur e (0, 0)) = some (.cells (xs.toArray ++ news.toArray ++ Builtin.zeroCells z.cells (grownCap w (n + 1) cap e - (n + 1))) e) := hcur.symm.trans k3
     injection k4 with k5
     injection k5 with k6
     subst k6
     rw [Array.toList_append, Array.toList_append] at hu
     have cl := hown.clean g0 cur0 rfl hg
     rcases List.mem_append.1 hu with m | m
     . rcases List.mem_append.1 m with m | m
       . have : u ∈ cur0.toList.take (n * i.size) := by rw [htake]; exact m
         exact cl u (List.mem_of_mem_take this)
       . exact hnc u m
     . exact zero_clean hzc (by omega) _ u m
end
end Go.Proofs.YtphinlongdoedaaGreat
namespace Go.Proofs.YtphinlongdoedaaGreat
open Go.RowKit
set_option linter.unusedSimpArgs false
set_option maxRecDepth 20000
set_option maxHeartbeats 2000000
def RetNQ (z d : Int) (w : World) (e : Ending) (w' : World) : Prop := ∃ q : RVal, e = .returned (.agg #[.bool q.g, .slice q.A q.n q.c, .bool q.gd, .slice q.Ad q.nd q.cd]) /\ q.In w' /\ q.o = some z /\ q.od = some d /\ Below w.heap.size w w'
theorem RetNQ.of {z d : Int} {w U : World} {r : Nat} {q : RVal} (h : Rb U r q) (o : q.o = some z) (od : q.od = some d) (hb : Below w.heap.size w U) : RetNQ z d w (.returned (.agg #[.bool q.g, .slice q.A q.n q.c, .bool q.gd, .slice q.Ad q.nd q.cd])) U := ⟨q, rfl, h.sl, o, od, hb⟩
theorem Sl.put1 {w : World} {r n c : Nat} {A : Option Addr} {xs : List Nat} {q : RVal} (h : Sl w w.heap.size A n c xs) (hr : Rb w r q) (g' : Bool) : Sl (w.setCell ⟨r, 0, none⟩ (.bool g')) (w.setCell ⟨r, 0, none⟩ (.bool g')).heap.size A n c xs := by
 have h1 := h.other hr.c0 (fun x e => by cases e) (.bool g')
 simpa [World.setCell] using h1
theorem Rb.put1 {w : World} {r : Nat} {q : RVal} (h : Rb w r q) (g' : Bool) : Rb (w.setCell ⟨r, 0, none⟩ (.bool g')) r ⟨g', q.A, q.n, q.c, q.xs, q.gd, q.Ad, q.nd, q.cd, q.ys⟩ :=
 ⟨by have := Blk.set_ h.bx 0 (.bool g'); exact this, h.sl.1.put1 h g', h.sl.2.put1 h g'⟩
theorem Rb.aside1 {w : World} {r r' : Nat} {q q' : RVal} (h' : Rb w r' q') (h : Rb w r q) (hne : r' ≠ r) (g' : Bool) : Rb (w.setCell ⟨r, 0, none⟩ (.bool g')) r' q' :=
 ⟨Blk.far h'.bx (p := ⟨r, 0, none⟩) hne _, h'.sl.1.put1 h g', h'.sl.2.put1 h g'⟩
theorem pneg_t (q : RVal) (w : World) (ha : q.In w) (z d : Int) (hg : q.g = true /\ decide (0 < q.n) = true) (o1 : ov false q.xs = some z) (o2 : q.od = some d) :
 Calls Tryz.prog 20 #[.agg #[.bool q.g, .slice q.A q.n q.c, .bool q.gd, .slice q.Ad q.nd q.cd]] w (RetNQ z d w) := by
 have HG := hI hg
 have O1 := hI o1
 have O2 := hI o2
 clear hg o1 o2
 have Ia_0 := hI ha
 clear ha
 have B_0 : Hid (Below w.heap.size w w) := hI (Below.refl _ _)
 go_enter Tryz.func20, Tryz.ntmps20
 go_upto_region 1 with fail
 generalize hW : World.alloc w _ = W1
 have hn := zA0 w (.cells #[.bool q.g, .slice q.A q.n q.c, .bool q.gd, .slice q.Ad q.nd q.cd] 26)
 rw [hW] at hn
 have hz : W1.heap.size = w.heap.size + 1 := by rw [<- hW]; simp
 have hx : Rb W1 w.heap.size q := by rw [<- hW]; exact Rb.new (q := q) Ia_0.out
 have B_1 := hI (zA B_0.out B_0.out.size hn)
 generalize hr : w.heap.size = r at *
 have HRr := hI hr
 clear hr
 have Xa_2 : Hid (Rb W1 r q) := hI hx
 have HT2 := hz
 clear hn hx hz hW B_0 Ia_0
 generalize hW : World.alloc W1 _ = W3
 have hn := zA0 W1 (.cells #[.bool false, .slice none 0 0, .bool false, .slice none 0 0] 26)
 rw [hW] at hn
 have hx : Rb W3 W1.heap.size RVal.nil := by rw [<- hW]; exact Rb.new (q := RVal.nil) (RVal.nil_in W1)
 have hlt : r < W1.heap.size := Xa_2.out.lt
 have B_3 := hI (bch B_1.out HRr.out hn)
 have Xa_4 := hI (Xa_2.out.on hn)
 rw [HT2] at hx hlt
 have Xe_5 : Hid (Rb W3 (r + 1) RVal.nil) := hI hx
 clear hn hx hW hlt B_1 Xa_2
 clear HT2
 have hg1 : q.g = true := HG.out.1
 obtain ⟨ka0, ka1, ka2, ka3⟩ := Xa_4.out.cs
 obtain ⟨fa0, fa1, fa2, fa3⟩ := Xa_4.out.fs
 have la := Xa_4.out.lt
 obtain ⟨ke0, ke1, ke2, ke3⟩ := Xe_5.out.cs
 obtain ⟨fe0, fe1, fe2, fe3⟩ := Xe_5.out.fs
 simp only [RVal.nil] at ke0 ke1 ke2 ke3
 have le := Xe_5.out.lt
 have nae : r ≠ (r + 1) := by omega
 have nea := nae.symm
 rw [hg1] at ka0
 clear hg1
 go_wp2
 try dsimp only
 clear ka0 ka1 ka2 ka3 fa0 fa1 fa2 fa3 la ke0 ke1 ke2 ke3 fe0 fe1 fe2 fe3 le nae nea
 generalize hW1 : World.setCell W3 _ _ = U1
 have Xa1 : Rb U1 r ⟨false, q.A, q.n, q.c, q.xs, q.gd, q.Ad, q.nd, q.cd, q.ys⟩ := by rw [<- hW1]; exact Xa_4.out.put1 _
 have Xe1 : Rb U1 (r + 1) RVal.nil := by rw [<- hW1]; exact Xe_5.out.aside1 Xa_4.out (by omega) _
 have B1 : Below r w U1 := by rw [<- hW1]; exact B_3.out.setCell (Nat.le_refl r) _
 clear hW1
 generalize hW2 : World.setCell (World.setCell (World.setCell (World.setCell U1 _ _) _ _) _ _) _ _ = U2
 have XE : Rb U2 (r + 1) ⟨false, q.A, q.n, q.c, q.xs, q.gd, q.Ad, q.nd, q.cd, q.ys⟩ := by rw [<- hW2]; exact Rb.put (q' := ⟨false, q.A, q.n, q.c, q.xs, q.gd, q.Ad, q.nd, q.cd, q.ys⟩) Xe1 Xa1.sl
 have B2 : Below w.heap.size w U2 := by rw [<- hW2, HRr.out]; exact zA5 B1 (by omega) _ _ _ _
 obtain ⟨j0, j1, j2, j3⟩ := XE.cs
 dsimp only at j0 j1 j2 j3
 refine bodyPost_ret (v := .agg #[.bool false, .slice q.A q.n q.c, .bool q.gd, .slice q.Ad q.nd q.cd]) (by simp [results, Tryz.results20, go_sem, j0, j1, j2, j3]) rfl ?_
 exact RetNQ.of XE O1.out O2.out B2
theorem pneg_f (q : RVal) (w : World) (ha : q.In w) (z d : Int) (hg : q.g = false /\ decide (0 < q.n) = true) (o1 : ov true q.xs = some z) (o2 : q.od = some d) :
 Calls Tryz.prog 20 #[.agg #[.bool q.g, .slice q.A q.n q.c, .bool q.gd, .slice q.Ad q.nd q.cd]] w (RetNQ z d w) := by
 have HG := hI hg
 have O1 := hI o1
 have O2 := hI o2
 clear hg o1 o2
 have Ia_0 := hI ha
 clear ha
 have B_0 : Hid (Below w.heap.size w w) := hI (Below.refl _ _)
 go_enter Tryz.func20, Tryz.ntmps20
 go_upto_region 1 with fail
 generalize hW : World.alloc w _ = W1
 have hn := zA0 w (.cells #[.bool q.g, .slice q.A q.n q.c, .bool q.gd, .slice q.Ad q.nd q.cd] 26)
 rw [hW] at hn
 have hz : W1.heap.size = w.heap.size + 1 := by rw [<- hW]; simp
 have hx : Rb W1 w.heap.size q := by rw [<- hW]; exact Rb.new (q := q) Ia_0.out
 have B_1 := hI (zA B_0.out B_0.out.size hn)
 generalize hr : w.heap.size = r at *
 have HRr := hI hr
 clear hr
 have Xa_2 : Hid (Rb W1 r q) := hI hx
 have HT2 := hz
 clear hn hx hz hW B_0 Ia_0
 generalize hW : World.alloc W1 _ = W3
 have hn := zA0 W1 (.cells #[.bool false, .slice none 0 0, .bool false, .slice none 0 0] 26)
 rw [hW] at hn
 have hx : Rb W3 W1.heap.size RVal.nil := by rw [<- hW]; exact Rb.new (q := RVal.nil) (RVal.nil_in W1)
 have hlt : r < W1.heap.size := Xa_2.out.lt
 have B_3 := hI (bch B_1.out HRr.out hn)
 have Xa_4 := hI (Xa_2.out.on hn)
 rw [HT2] at hx hlt
 have Xe_5 : Hid (Rb W3 (r + 1) RVal.nil) := hI hx
 clear hn hx hW hlt B_1 Xa_2
 clear HT2
 have hg1 : q.g = false := HG.out.1
 have hn1 : decide (0 < q.n) = true := HG.out.2
 obtain ⟨ka0, ka1, ka2, ka3⟩ := Xa_4.out.cs
 obtain ⟨fa0, fa1, fa2, fa3⟩ := Xa_4.out.fs
 have la := Xa_4.out.lt
 obtain ⟨ke0, ke1, ke2, ke3⟩ := Xe_5.out.cs
 obtain ⟨fe0, fe1, fe2, fe3⟩ := Xe_5.out.fs
 simp only [RVal.nil] at ke0 ke1 ke2 ke3
 have le := Xe_5.out.lt
 have nae : r ≠ (r + 1) := by omega
 have nea := nae.symm
 rw [hg1] at ka0
 clear hg1
 go_wp2
 try dsimp only
 clear ka0 ka1 ka2 ka3 fa0 fa1 fa2 fa3 la ke0 ke1 ke2 ke3 fe0 fe1 fe2 fe3 le nae nea
 generalize hW1 : World.setCell W3 _ _ = U1
 have Xa1 : Rb U1 r ⟨true, q.A, q.n, q.c, q.xs, q.gd, q.Ad, q.nd, q.cd, q.ys⟩ := by rw [<- hW1]; exact Xa_4.out.put1 _
 have Xe1 : Rb U1 (r + 1) RVal.nil := by rw [<- hW1]; exact Xe_5.out.aside1 Xa_4.out (by omega) _
 have B1 : Below r w U1 := by rw [<- hW1]; exact B_3.out.setCell (Nat.le_refl r) _
 clear hW1
 generalize hW2 : World.setCell (World.setCell (World.setCell (World.setCell U1 _ _) _ _) _ _) _ _ = U2
 have XE : Rb U2 (r + 1) ⟨true, q.A, q.n, q.c, q.xs, q.gd, q.Ad, q.nd, q.cd, q.ys⟩ := by rw [<- hW2]; exact Rb.put (q' := ⟨true, q.A, q.n, q.c, q.xs, q.gd, q.Ad, q.nd, q.cd, q.ys⟩) Xe1 Xa1.sl
 have B2 : Below w.heap.size w U2 := by rw [<- hW2, HRr.out]; exact zA5 B1 (by omega) _ _ _ _
 obtain ⟨j0, j1, j2, j3⟩ := XE.cs
 dsimp only at j0 j1 j2 j3
 refine bodyPost_ret (v := .agg #[.bool true, .slice q.A q.n q.c, .bool q.gd, .slice q.Ad q.nd q.cd]) (by simp [results, Tryz.results20, go_sem, j0, j1, j2, j3]) rfl ?_
 exact RetNQ.of XE O1.out O2.out B2
theorem pneg_0 (q : RVal) (w : World) (ha : q.In w) (z d : Int) (hg : q.g = false /\ decide (0 < q.n) = false) (o1 : ov false q.xs = some z) (o2 : q.od = some d) :
 Calls Tryz.prog 20 #[.agg #[.bool q.g, .slice q.A q.n q.c, .bool q.gd, .slice q.Ad q.nd q.cd]] w (RetNQ z d w) := by
 have HG := hI hg
 have O1 := hI o1
 have O2 := hI o2
 clear hg o1 o2
 have Ia_0 := hI ha
 clear ha
 have B_0 : Hid (Below w.heap.size w w) := hI (Below.refl _ _)
 go_enter Tryz.func20, Tryz.ntmps20
 go_upto_region 1 with fail
 generalize hW : World.alloc w _ = W1
 have hn := zA0 w (.cells #[.bool q.g, .slice q.A q.n q.c, .bool q.gd, .slice q.Ad q.nd q.cd] 26)
 rw [hW] at hn
 have hz : W1.heap.size = w.heap.size + 1 := by rw [<- hW]; simp
 have hx : Rb W1 w.heap.size q := by rw [<- hW]; exact Rb.new (q := q) Ia_0.out
 have B_1 := hI (zA B_0.out B_0.out.size hn)
 generalize hr : w.heap.size = r at *
 have HRr := hI hr
 clear hr
 have Xa_2 : Hid (Rb W1 r q) := hI hx
 have HT2 := hz
 clear hn hx hz hW B_0 Ia_0
 generalize hW : World.alloc W1 _ = W3
 have hn := zA0 W1 (.cells #[.bool false, .slice none 0 0, .bool false, .slice none 0 0] 26)
 rw [hW] at hn
 have hx : Rb W3 W1.heap.size RVal.nil := by rw [<- hW]; exact Rb.new (q := RVal.nil) (RVal.nil_in W1)
 have hlt : r < W1.heap.size := Xa_2.out.lt
 have B_3 := hI (bch B_1.out HRr.out hn)
 have Xa_4 := hI (Xa_2.out.on hn)
 rw [HT2] at hx hlt
 have Xe_5 : Hid (Rb W3 (r + 1) RVal.nil) := hI hx
 clear hn hx hW hlt B_1 Xa_2
 clear HT2
 have hg1 : q.g = false := HG.out.1
 have hn1 : decide (0 < q.n) = false := HG.out.2
 obtain ⟨ka0, ka1, ka2, ka3⟩ := Xa_4.out.cs
 obtain ⟨fa0, fa1, fa2, fa3⟩ := Xa_4.out.fs
 have la := Xa_4.out.lt
 obtain ⟨ke0, ke1, ke2, ke3⟩ := Xe_5.out.cs
 obtain ⟨fe0, fe1, fe2, fe3⟩ := Xe_5.out.fs
 simp only [RVal.nil] at ke0 ke1 ke2 ke3
 have le := Xe_5.out.lt
 have nae : r ≠ (r + 1) := by omega
 have nea := nae.symm
 rw [hg1] at ka0
 clear hg1
 go_wp2
 try dsimp only
 clear ka0 ka1 ka2 ka3 fa0 fa1 fa2 fa3 la ke0 ke1 ke2 ke3 fe0 fe1 fe2 fe3 le nae nea
 generalize hW1 : World.setCell W3 _ _ = U1
 have Xa1 : Rb U1 r ⟨false, q.A, q.n, q.c, q.xs, q.gd, q.Ad, q.nd, q.cd, q.ys⟩ := by rw [<- hW1]; exact Xa_4.out.put1 _
 have Xe1 : Rb U1 (r + 1) RVal.nil := by rw [<- hW1]; exact Xe_5.out.aside1 Xa_4.out (by omega) _
 have B1 : Below r w U1 := by rw [<- hW1]; exact B_3.out.setCell (Nat.le_refl r) _
 clear hW1
 generalize hW2 : World.setCell (World.setCell (World.setCell (World.setCell U1 _ _) _ _) _ _) _ _ = U2
 have XE : Rb U2 (r + 1) ⟨false, q.A, q.n, q.c, q.xs, q.gd, q.Ad, q.nd, q.cd, q.ys⟩ := by rw [<- hW2]; exact Rb.put (q' := ⟨false, q.A, q.n, q.c, q.xs, q.gd, q.Ad, q.nd, q.cd, q.ys⟩) Xe1 Xa1.sl
 have B2 : Below w.heap.size w U2 := by rw [<- hW2, HRr.out]; exact zA5 B1 (by omega) _ _ _ _
 obtain ⟨j0, j1, j2, j3⟩ := XE.cs
 dsimp only at j0 j1 j2 j3
 refine bodyPost_ret (v := .agg #[.bool false, .slice q.A q.n q.c, .bool q.gd, .slice q.Ad q.nd q.cd]) (by simp [results, Tryz.results20, go_sem, j0, j1, j2, j3]) rfl ?_
 exact RetNQ.of XE O1.out O2.out B2
theorem pneg_q {q : RVal} {w : World} {z d : Int} (h : q.In w) (o1 : q.o = some z) (o2 : q.od = some d) : Calls Tryz.prog 20 #[.agg #[.bool q.g, .slice q.A q.n q.c, .bool q.gd, .slice q.Ad q.nd q.cd]] w (RetNQ (-z) d w) := by
 have o1' : ov q.g q.xs = some z := o1
 have s := zK2 o1'
 have l := zG5 h.1 o1'
 by_cases hz : z = 0
 . subst hz
   have hg : q.g = false := by rw [<- s]; rfl
   have hn : q.n = 0 := by have : decide (q.n = 0) = true := l.trans rfl; exact of_decide_eq_true this
   exact pneg_0 q w h (-0) d ⟨hg, by rw [hn]; rfl⟩ (by rw [<- hg]; exact o1') o2
 . have fl := ov_flip h.1 o1' hz
   have hn : q.n ≠ 0 := by have : decide (q.n = 0) = false := l.trans (decide_eq_false hz); exact of_decide_eq_false this
   have hp : decide (0 < q.n) = true := decide_eq_true (by omega)
   by_cases hg : q.g = true
   . rw [hg, Bool.not_true] at fl
     exact pneg_t q w h (-z) d ⟨hg, hp⟩ fl o2
   . have hg : q.g = false := by simpa using hg
     rw [hg, Bool.not_false] at fl
     exact pneg_f q w h (-z) d ⟨hg, hp⟩ fl o2
end Go.Proofs.YtphinlongdoedaaGreat
namespace Go.Proofs.YtphinlongdoedaaGreat
open Go.RowKit
set_option linter.unusedSimpArgs false
set_option maxRecDepth 20000
set_option maxHeartbeats 2000000
theorem RetN.of {z : Int} {w U : World} {r : Nat} {g : Bool} {A : Option Addr} {n c : Nat} {xs : List Nat} (h : Ba U r g A n c xs) (ho : ov g xs = some z) (hb : Below w.heap.size w U) : RetN z w (.returned (.agg #[.bool g, .slice A n c])) U := ⟨g, A, n, c, xs, rfl, h.sl, ho, hb⟩
theorem RetW.of {x : Rat} {w U : World} {r : Nat} {q : RVal} (h : Rb U r q) (ho : rv q.o q.od = some x) (hb : Below w.heap.size w U) : RetW x w (.returned (.agg #[.bool q.g, .slice q.A q.n q.c, .bool q.gd, .slice q.Ad q.nd q.cd])) U := ⟨q, rfl, h.sl, ho, hb⟩
theorem rneg_0 (ga : Bool) (Aa : Option Addr) (na ca : Nat) (xsa : List Nat) (w : World) (ha : Sl w w.heap.size Aa na ca xsa) (z : Int) (ha2 : ov ga xsa = some z) (hn : decide (na = 0) = true) :
 Calls Tryz.prog 26 #[.agg #[.bool ga, .slice Aa na ca]] w (RetN z w) := by
 have Va := hI ha2
 have HN := hI hn
 clear ha2 hn
 have Ja_0 := hI ha
 clear ha
 have B_0 : Hid (Below w.heap.size w w) := hI (Below.refl _ _)
 go_enter Tryz.func26, Tryz.ntmps26
 go_wp2_with fail
 generalize hW : World.alloc w _ = W1
 have hn := zA0 w (.cells #[.bool ga, .slice Aa na ca] 24)
 rw [hW] at hn
 have hz : W1.heap.size = w.heap.size + 1 := by rw [<- hW]; simp
 have hx : Ba W1 w.heap.size ga Aa na ca xsa := by rw [<- hW]; exact ⟨Bx.new w _ _ _ _, Ja_0.out.on (zA0 _ _)⟩
 have B_1 := hI (zA B_0.out B_0.out.size hn)
 generalize hr : w.heap.size = r at *
 have HRr := hI hr
 clear hr
 have Za_2 : Hid (Ba W1 r ga Aa na ca xsa) := hI hx
 have HT2 := hz
 clear hn hx hz hW B_0 Ja_0
 generalize hW : World.alloc W1 _ = W3
 have hn := zA0 W1 (.cells #[.bool false, .slice none 0 0] 24)
 rw [hW] at hn
 have hx : Ba W3 W1.heap.size false none 0 0 [] := by rw [<- hW]; exact ⟨Bx.new W1 _ _ _ _, Sl.nil _ _⟩
 have hlt : r < W1.heap.size := Za_2.out.bx.lt
 have B_3 := hI (bch B_1.out HRr.out hn)
 have Za_4 := hI (Za_2.out.on hn)
 rw [HT2] at hx hlt
 have Ze_5 : Hid (Ba W3 (r + 1) false none 0 0 []) := hI hx
 clear hn hx hW hlt B_1 Za_2
 clear HT2
 refine (zB2 _ _ _ _ W3).mono ?_
 rintro e w6 ⟨rfl, hb⟩
 have B_6 := hI (bch B_3.out HRr.out hb)
 have Za_7 := hI (Za_4.out.on hb)
 have Ze_8 := hI (Ze_5.out.on hb)
 clear hb B_3 Za_4 Ze_5
 skip
 obtain ⟨ka0, ka1⟩ := Za_7.out.cs
 obtain ⟨fa0, fa1⟩ := Za_7.out.fs
 have la := Za_7.out.bx.lt
 obtain ⟨ke0, ke1⟩ := Ze_8.out.cs
 obtain ⟨fe0, fe1⟩ := Ze_8.out.fs
 have le := Ze_8.out.bx.lt
 have nae : r ≠ (r + 1) := by omega
 have nea := nae.symm
 have hN := HN.out
 go_wp2
 clear ka0 ka1 fa0 fa1 la ke0 ke1 fe0 fe1 le nae nea
 generalize hW : World.setCell (World.setCell w6 _ _) _ _ = W9
 have B_9 : Hid (Below r w W9) := by rw [<- hW]; exact hI (zA1 B_6.out (by omega) _ _)
 have Za_10 : Hid (Ba W9 r ga Aa na ca xsa) := by rw [<- hW]; exact hI (Za_7.out.aside Ze_8.out (by omega) _ _)
 have Ze_11 : Hid (Ba W9 (r + 1) ga Aa na ca xsa) := by rw [<- hW]; exact hI (Ze_8.out.stored Za_7.out.sl _)
 clear hW B_6 Za_7 Ze_8
 have j0 := Ze_11.out.bx.c0
 have j1 := Ze_11.out.bx.c1
 refine bodyPost_ret (v := .agg #[.bool ga, .slice Aa na ca]) (by simp [results, Tryz.results26, go_sem, j0, j1]) rfl ?_
 exact RetN.of Ze_11.out Va.out (by rw [HRr.out]; exact B_9.out)
theorem rneg_1 (ga : Bool) (Aa : Option Addr) (na ca : Nat) (xsa : List Nat) (w : World) (ha : Sl w w.heap.size Aa na ca xsa) (z : Int) (ha2 : ov (!ga) xsa = some z) (hn : decide (na = 0) = false) :
 Calls Tryz.prog 26 #[.agg #[.bool ga, .slice Aa na ca]] w (RetN z w) := by
 have Va := hI ha2
 have HN := hI hn
 clear ha2 hn
 have Ja_0 := hI ha
 clear ha
 have B_0 : Hid (Below w.heap.size w w) := hI (Below.refl _ _)
 go_enter Tryz.func26, Tryz.ntmps26
 go_wp2_with fail
 generalize hW : World.alloc w _ = W1
 have hn := zA0 w (.cells #[.bool ga, .slice Aa na ca] 24)
 rw [hW] at hn
 have hz : W1.heap.size = w.heap.size + 1 := by rw [<- hW]; simp
 have hx : Ba W1 w.heap.size ga Aa na ca xsa := by rw [<- hW]; exact ⟨Bx.new w _ _ _ _, Ja_0.out.on (zA0 _ _)⟩
 have B_1 := hI (zA B_0.out B_0.out.size hn)
 generalize hr : w.heap.size = r at *
 have HRr := hI hr
 clear hr
 have Za_2 : Hid (Ba W1 r ga Aa na ca xsa) := hI hx
 have HT2 := hz
 clear hn hx hz hW B_0 Ja_0
 generalize hW : World.alloc W1 _ = W3
 have hn := zA0 W1 (.cells #[.bool false, .slice none 0 0] 24)
 rw [hW] at hn
 have hx : Ba W3 W1.heap.size false none 0 0 [] := by rw [<- hW]; exact ⟨Bx.new W1 _ _ _ _, Sl.nil _ _⟩
 have hlt : r < W1.heap.size := Za_2.out.bx.lt
 have B_3 := hI (bch B_1.out HRr.out hn)
 have Za_4 := hI (Za_2.out.on hn)
 rw [HT2] at hx hlt
 have Ze_5 : Hid (Ba W3 (r + 1) false none 0 0 []) := hI hx
 clear hn hx hW hlt B_1 Za_2
 clear HT2
 refine (zB2 _ _ _ _ W3).mono ?_
 rintro e w6 ⟨rfl, hb⟩
 have B_6 := hI (bch B_3.out HRr.out hb)
 have Za_7 := hI (Za_4.out.on hb)
 have Ze_8 := hI (Ze_5.out.on hb)
 clear hb B_3 Za_4 Ze_5
 skip
 obtain ⟨ka0, ka1⟩ := Za_7.out.cs
 obtain ⟨fa0, fa1⟩ := Za_7.out.fs
 have la := Za_7.out.bx.lt
 obtain ⟨ke0, ke1⟩ := Ze_8.out.cs
 obtain ⟨fe0, fe1⟩ := Ze_8.out.fs
 have le := Ze_8.out.bx.lt
 have nae : r ≠ (r + 1) := by omega
 have nea := nae.symm
 have hN := HN.out
 go_wp2
 clear ka0 ka1 fa0 fa1 la ke0 ke1 fe0 fe1 le nae nea
 have Jm_0 : Hid (Sl w6 w6.heap.size Aa na ca xsa) := hI Za_7.out.sl
 generalize hW : World.setCell (World.setCell w6 _ _) _ _ = W9
 have B_9 : Hid (Below r w W9) := by rw [<- hW]; exact hI (zA1 B_6.out (by omega) _ _)
 have Za_10 : Hid (Ba W9 r ga Aa na ca xsa) := by rw [<- hW]; exact hI (Za_7.out.aside Ze_8.out (by omega) _ _)
 have Ze_11 : Hid (Ba W9 (r + 1) (!ga) Aa na ca xsa) := by rw [<- hW]; exact hI (Ze_8.out.stored Jm_0.out _)
 clear hW B_6 Za_7 Ze_8 Jm_0
 have j0 := Ze_11.out.bx.c0
 have j1 := Ze_11.out.bx.c1
 refine bodyPost_ret (v := .agg #[.bool (!ga), .slice Aa na ca]) (by simp [results, Tryz.results26, go_sem, j0, j1]) rfl ?_
 exact RetN.of Ze_11.out Va.out (by rw [HRr.out]; exact B_9.out)
theorem rneg_z {g : Bool} {A : Option Addr} {n c : Nat} {xs : List Nat} {w : World} {z : Int} (h : Sl w w.heap.size A n c xs) (ho : ov g xs = some z) :
 Calls Tryz.prog 26 #[.agg #[.bool g, .slice A n c]] w (RetN (-z) w) := by
 have l := zG5 h ho
 by_cases hz : z = 0
 . subst hz
   exact rneg_0 g A n c xs w h (-0) ho (by rw [l]; rfl)
 . exact rneg_1 g A n c xs w h (-z) (ov_flip h ho hz) (by rw [l, decide_eq_false hz])
end Go.Proofs.YtphinlongdoedaaGreat
namespace Go.Proofs.YtphinlongdoedaaGreat
open Go.RowKit
set_option linter.unusedSimpArgs false
set_option maxRecDepth 20000
set_option maxHeartbeats 2000000
theorem rboth_f (p q : RVal) (w : World) (ha : p.In w) (hb : q.In w) (v : Bool) (h1 : (rv p.o p.od).isSome = false) (h2 : (rv q.o q.od).isSome = v) :
 Calls Tryz.prog 21 #[.agg #[.bool p.g, .slice p.A p.n p.c, .bool p.gd, .slice p.Ad p.nd p.cd], .agg #[.bool q.g, .slice q.A q.n q.c, .bool q.gd, .slice q.Ad q.nd q.cd]] w fun e w' => e = .returned (.bool false) /\ Below w.heap.size w w' := by
 have H1 := hI h1
 have H2 := hI h2
 clear h1 h2
 have Ia_0 := hI ha
 clear ha
 have Ib_0 := hI hb
 clear hb
 have B_0 : Hid (Below w.heap.size w w) := hI (Below.refl _ _)
 go_enter Tryz.func21, Tryz.ntmps21
 go_wp2_with fail
 generalize hW : World.alloc w _ = W1
 have hn := zA0 w (.cells #[.bool p.g, .slice p.A p.n p.c, .bool p.gd, .slice p.Ad p.nd p.cd] 26)
 rw [hW] at hn
 have hz : W1.heap.size = w.heap.size + 1 := by rw [<- hW]; simp
 have hx : Rb W1 w.heap.size p := by rw [<- hW]; exact Rb.new (q := p) Ia_0.out
 have Ib_1 := hI (Ib_0.out.on hn)
 have B_2 := hI (zA B_0.out B_0.out.size hn)
 generalize hr : w.heap.size = r at *
 have HRr := hI hr
 clear hr
 have Xa_3 : Hid (Rb W1 r p) := hI hx
 have HT3 := hz
 clear hn hx hz hW Ib_0 B_0 Ia_0
 generalize hW : World.alloc W1 _ = W4
 have hn := zA0 W1 (.cells #[.bool q.g, .slice q.A q.n q.c, .bool q.gd, .slice q.Ad q.nd q.cd] 26)
 rw [hW] at hn
 have hx : Rb W4 W1.heap.size q := by rw [<- hW]; exact Rb.new (q := q) Ib_1.out
 have hlt : r < W1.heap.size := Xa_3.out.lt
 have B_4 := hI (bch B_2.out HRr.out hn)
 have Xa_5 := hI (Xa_3.out.on hn)
 rw [HT3] at hx hlt
 have Xb_6 : Hid (Rb W4 (r + 1) q) := hI hx
 clear hn hx hW hlt B_2 Xa_3 Ib_1
 clear HT3
 have C := rvalid2 Xa_5.out.sl
 rw [H1.out] at C
 refine C.mono ?_
 clear C
 rintro e w7 ⟨rfl, hb⟩
 have B_7 := hI (bch B_4.out HRr.out hb)
 have Xa_8 := hI (Xa_5.out.on hb)
 have Xb_9 := hI (Xb_6.out.on hb)
 clear hb B_4 Xa_5 Xb_6
 obtain ⟨kb0, kb1, kb2, kb3⟩ := Xb_9.out.cs
 have lb := Xb_9.out.lt
 go_wp2_with fail
 have C := rvalid2 Xb_9.out.sl
 rw [H2.out] at C
 refine C.mono ?_
 clear C
 clear kb0 kb1 kb2 kb3 lb
 rintro e w10 ⟨rfl, hb⟩
 have B_10 := hI (bch B_7.out HRr.out hb)
 have Xa_11 := hI (Xa_8.out.on hb)
 have Xb_12 := hI (Xb_9.out.on hb)
 clear hb B_7 Xa_8 Xb_9
 go_wp2
 go_ret
 exact ⟨rfl, (by rw [HRr.out]; exact B_10.out)⟩
theorem rboth_t (p q : RVal) (w : World) (ha : p.In w) (hb : q.In w) (v : Bool) (h1 : (rv p.o p.od).isSome = true) (h2 : (rv q.o q.od).isSome = v) :
 Calls Tryz.prog 21 #[.agg #[.bool p.g, .slice p.A p.n p.c, .bool p.gd, .slice p.Ad p.nd p.cd], .agg #[.bool q.g, .slice q.A q.n q.c, .bool q.gd, .slice q.Ad q.nd q.cd]] w fun e w' => e = .returned (.bool v) /\ Below w.heap.size w w' := by
 have H1 := hI h1
 have H2 := hI h2
 clear h1 h2
 have Ia_0 := hI ha
 clear ha
 have Ib_0 := hI hb
 clear hb
 have B_0 : Hid (Below w.heap.size w w) := hI (Below.refl _ _)
 go_enter Tryz.func21, Tryz.ntmps21
 go_wp2_with fail
 generalize hW : World.alloc w _ = W1
 have hn := zA0 w (.cells #[.bool p.g, .slice p.A p.n p.c, .bool p.gd, .slice p.Ad p.nd p.cd] 26)
 rw [hW] at hn
 have hz : W1.heap.size = w.heap.size + 1 := by rw [<- hW]; simp
 have hx : Rb W1 w.heap.size p := by rw [<- hW]; exact Rb.new (q := p) Ia_0.out
 have Ib_1 := hI (Ib_0.out.on hn)
 have B_2 := hI (zA B_0.out B_0.out.size hn)
 generalize hr : w.heap.size = r at *
 have HRr := hI hr
 clear hr
 have Xa_3 : Hid (Rb W1 r p) := hI hx
 have HT3 := hz
 clear hn hx hz hW Ib_0 B_0 Ia_0
 generalize hW : World.alloc W1 _ = W4
 have hn := zA0 W1 (.cells #[.bool q.g, .slice q.A q.n q.c, .bool q.gd, .slice q.Ad q.nd q.cd] 26)
 rw [hW] at hn
 have hx : Rb W4 W1.heap.size q := by rw [<- hW]; exact Rb.new (q := q) Ib_1.out
 have hlt : r < W1.heap.size := Xa_3.out.lt
 have B_4 := hI (bch B_2.out HRr.out hn)
 have Xa_5 := hI (Xa_3.out.on hn)
 rw [HT3] at hx hlt
 have Xb_6 : Hid (Rb W4 (r + 1) q) := hI hx
 clear hn hx hW hlt B_2 Xa_3 Ib_1
 clear HT3
 have C := rvalid2 Xa_5.out.sl
 rw [H1.out] at C
 refine C.mono ?_
 clear C
 rintro e w7 ⟨rfl, hb⟩
 have B_7 := hI (bch B_4.out HRr.out hb)
 have Xa_8 := hI (Xa_5.out.on hb)
 have Xb_9 := hI (Xb_6.out.on hb)
 clear hb B_4 Xa_5 Xb_6
 obtain ⟨kb0, kb1, kb2, kb3⟩ := Xb_9.out.cs
 have lb := Xb_9.out.lt
 go_wp2_with fail
 have C := rvalid2 Xb_9.out.sl
 rw [H2.out] at C
 refine C.mono ?_
 clear C
 clear kb0 kb1 kb2 kb3 lb
 rintro e w10 ⟨rfl, hb⟩
 have B_10 := hI (bch B_7.out HRr.out hb)
 have Xa_11 := hI (Xa_8.out.on hb)
 have Xb_12 := hI (Xb_9.out.on hb)
 clear hb B_7 Xa_8 Xb_9
 go_wp2
 go_ret
 exact ⟨rfl, (by rw [HRr.out]; exact B_10.out)⟩
theorem zP9 {p q : RVal} {w : World} (h : p.In w) (h' : q.In w) (v : Bool) (hv : ((rv p.o p.od).isSome && (rv q.o q.od).isSome) = v) :
 Calls Tryz.prog 21 #[.agg #[.bool p.g, .slice p.A p.n p.c, .bool p.gd, .slice p.Ad p.nd p.cd], .agg #[.bool q.g, .slice q.A q.n q.c, .bool q.gd, .slice q.Ad q.nd q.cd]] w fun e w' => e = .returned (.bool v) /\ Below w.heap.size w w' := by
 rcases h1 : (rv p.o p.od).isSome with _ | _
 . rw [h1] at hv
   have : v = false := hv.symm
   subst this
   exact rboth_f p q w h h' _ h1 rfl
 . rw [h1] at hv
   exact rboth_t p q w h h' v h1 hv
end Go.Proofs.YtphinlongdoedaaGreat
namespace Go.Proofs.YtphinlongdoedaaGreat
open Go.RowKit
set_option linter.unusedSimpArgs false
set_option maxRecDepth 20000
set_option maxHeartbeats 2000000
theorem simp_mid (p q : RVal) (w : World) (ha : p.In w) (hb : q.In w) (hc : ∀ w : World, p.In w -> q.In w -> Calls Tryz.prog 17 #[.agg #[.bool p.g, .slice p.A p.n p.c, .bool p.gd, .slice p.Ad p.nd p.cd], .agg #[.bool q.g, .slice q.A q.n q.c, .bool q.gd, .slice q.Ad q.nd q.cd]] w (RetC (-1) 0 w)) (hg : p.g = true /\ q.g = false /\ decide (0 < q.n) = true) :
 Calls Tryz.prog 5 #[.agg #[.bool p.g, .slice p.A p.n p.c, .bool p.gd, .slice p.Ad p.nd p.cd], .agg #[.bool q.g, .slice q.A q.n q.c, .bool q.gd, .slice q.Ad q.nd q.cd]] w (RetR (mkN (some 0) (some 1)) (mkD (some 0) (some 1)) (mkE (some 0) (some 1)) w) := by
 have HC := hI hc
 have HG := hI hg
 clear hc hg
 have Ia_0 := hI ha
 clear ha
 have Ib_0 := hI hb
 clear hb
 have B_0 : Hid (Below w.heap.size w w) := hI (Below.refl _ _)
 go_enter Tryz.func5, Tryz.ntmps5
 go_wp2_with fail
 generalize hW : World.alloc w _ = W1
 have hn := zA0 w (.cells #[.bool p.g, .slice p.A p.n p.c, .bool p.gd, .slice p.Ad p.nd p.cd] 26)
 rw [hW] at hn
 have hz : W1.heap.size = w.heap.size + 1 := by rw [<- hW]; simp
 have hx : Rb W1 w.heap.size p := by rw [<- hW]; exact Rb.new (q := p) Ia_0.out
 have Ib_1 := hI (Ib_0.out.on hn)
 have B_2 := hI (zA B_0.out B_0.out.size hn)
 generalize hr : w.heap.size = r at *
 have HRr := hI hr
 clear hr
 have Xa_3 : Hid (Rb W1 r p) := hI hx
 have HT3 := hz
 clear hn hx hz hW Ib_0 B_0 Ia_0
 generalize hW : World.alloc W1 _ = W4
 have hn := zA0 W1 (.cells #[.bool q.g, .slice q.A q.n q.c, .bool q.gd, .slice q.Ad q.nd q.cd] 26)
 rw [hW] at hn
 have hz : W4.heap.size = W1.heap.size + 1 := by rw [<- hW]; simp
 have hx : Rb W4 W1.heap.size q := by rw [<- hW]; exact Rb.new (q := q) Ib_1.out
 have hlt : r < W1.heap.size := Xa_3.out.lt
 have B_4 := hI (bch B_2.out HRr.out hn)
 have Xa_5 := hI (Xa_3.out.on hn)
 rw [HT3] at hx hz hlt
 have Xb_6 : Hid (Rb W4 (r + 1) q) := hI hx
 have HT6 := hz
 clear hn hx hz hW hlt B_2 Xa_3 Ib_1
 generalize hW : World.alloc W4 _ = W7
 have hn := zA0 W4 (.cells #[.bool false, .slice none 0 0, .bool false, .slice none 0 0] 26)
 rw [hW] at hn
 have hx : Rb W7 W4.heap.size RVal.nil := by rw [<- hW]; exact Rb.new (q := RVal.nil) (RVal.nil_in W4)
 have hlt : (r + 1) < W4.heap.size := Xb_6.out.lt
 have B_7 := hI (bch B_4.out HRr.out hn)
 have Xa_8 := hI (Xa_5.out.on hn)
 have Xb_9 := hI (Xb_6.out.on hn)
 rw [HT6] at hx hlt
 have Xe_10 : Hid (Rb W7 (r + 1 + 1) RVal.nil) := hI hx
 clear hn hx hW hlt B_4 Xa_5 Xb_6
 clear HT3 HT6
 refine (HC.out W7 Xa_8.out.sl Xb_9.out.sl).mono ?_
 rintro e w11 ⟨rfl, hb⟩
 have B_11 := hI (bch B_7.out HRr.out hb)
 have Xa_12 := hI (Xa_8.out.on hb)
 have Xb_13 := hI (Xb_9.out.on hb)
 have Xe_14 := hI (Xe_10.out.on hb)
 clear hb B_7 Xa_8 Xb_9 Xe_10
 have g1 : p.g = true := HG.out.1
 have g2 : q.g = false := HG.out.2.1
 have g3 : decide (0 < q.n) = true := HG.out.2.2
 obtain ⟨ka0, ka1, ka2, ka3⟩ := Xa_12.out.cs
 have la := Xa_12.out.lt
 obtain ⟨kb0, kb1, kb2, kb3⟩ := Xb_13.out.cs
 have lb := Xb_13.out.lt
 rw [g1] at ka0
 rw [g2] at kb0
 clear g1 g2
 go_wp2_with fail
 clear g3
 refine (ratOf_any 0 1 w11 (by decide) (by decide) (by decide) (by decide)).mono ?_
 clear ka0 ka1 ka2 ka3 la kb0 kb1 kb2 kb3 lb
 rintro e w15 ⟨tk, rfl, hi, hv, hv2, hb⟩
 have B_15 := hI (bch B_11.out HRr.out hb)
 have Xa_16 := hI (Xa_12.out.on hb)
 have Xb_17 := hI (Xb_13.out.on hb)
 have Xe_18 := hI (Xe_14.out.on hb)
 have Ik_19 : Hid (tk.In w15) := hI hi
 clear hb B_11 Xa_12 Xb_13 Xe_14 hi
 have Vk := hI (And.intro hv hv2)
 clear hv hv2
 clear Xa_16 Xb_17
 obtain ⟨ke0, ke1, ke2, ke3⟩ := Xe_18.out.cs
 obtain ⟨fe0, fe1, fe2, fe3⟩ := Xe_18.out.fs
 simp only [RVal.nil] at ke0 ke1 ke2 ke3
 have le := Xe_18.out.lt
 go_wp2
 clear ke0 ke1 ke2 ke3 fe0 fe1 fe2 fe3 le
 generalize hW : World.setCell (World.setCell (World.setCell (World.setCell w15 _ _) _ _) _ _) _ _ = W20
 have B_20 : Hid (Below r w W20) := by rw [<- hW]; exact hI (zA5 B_15.out (by omega) _ _ _ _)
 have Xe_21 : Hid (Rb W20 (r + 1 + 1) tk) := by rw [<- hW]; exact hI (Rb.put (q' := tk) Xe_18.out Ik_19.out)
 clear hW B_15 Xe_18 Ik_19
 have E0 : mkE (some 0) (some 1) = 0 := by decide
 obtain ⟨j0, j1, j2, j3⟩ := Xe_21.out.cs
 try dsimp only at j0 j1 j2 j3
 refine bodyPost_ret (v := .tuple #[.agg #[.bool tk.g, .slice tk.A tk.n tk.c, .bool tk.gd, .slice tk.Ad tk.nd tk.cd], .int .i64 (mkE (some 0) (some 1))]) (by simp [results, Tryz.results5, go_sem, j0, j1, j2, j3]) rfl ?_
 exact RetR.of Xe_21.out Vk.out.1 Vk.out.2 (by rw [HRr.out]; exact B_20.out)
end Go.Proofs.YtphinlongdoedaaGreat
namespace Go.Proofs.YtphinlongdoedaaGreat
open Go.RowKit
theorem sign_three (z : Int) : z.sign = -1 /\ z < 0 \/ z.sign = 0 /\ z = 0 \/ z.sign = 1 /\ 0 < z := by
 rcases Int.lt_trichotomy z 0 with h | h | h
 . exact Or.inl ⟨Int.sign_eq_neg_one_of_neg h, h⟩
 . exact Or.inr (Or.inl ⟨by rw [h]; rfl, h⟩)
 . exact Or.inr (Or.inr ⟨Int.sign_eq_one_of_pos h, h⟩)
end Go.Proofs.YtphinlongdoedaaGreat
namespace Go.Proofs.YtphinlongdoedaaGreat
open Go.RowKit
def Lt (x y : Rat) : Prop := x.num * y.den < y.num * x.den
theorem zR0 {x y : Rat} (h : Lt x y) : Lt (-y) (-x) := by
 unfold Lt at *
 show -y.num * (x.den : Int) < -x.num * (y.den : Int)
 rw [Int.neg_mul, Int.neg_mul]; omega
def Simp (x y z : Rat) : Prop := ∀ (q q' : RVal) (w : World), q.In w -> q'.In w -> rv q.o q.od = some x -> rv q'.o q'.od = some y -> Calls Tryz.prog 5 #[.agg #[.bool q.g, .slice q.A q.n q.c, .bool q.gd, .slice q.Ad q.nd q.cd], .agg #[.bool q'.g, .slice q'.A q'.n q'.c, .bool q'.gd, .slice q'.Ad q'.nd q'.cd]] w (RetV z w)
structure zO0 (x y z : Rat) : Prop where
 lo : Lt x z
 hi : Lt z y
 least : ∀ t : Rat, Lt x t -> Lt t y -> z.den <= t.den /\ z.num.natAbs <= t.num.natAbs
theorem zT4 {x y z : Rat} (h : zO0 x y z) : zO0 (-y) (-x) (-z) := by
 refine ⟨zR0 h.hi, zR0 h.lo, fun t a b => ?_⟩
 have a' := zR0 a
 have b' := zR0 b
 rw [Rat.neg_neg] at a' b'
 have k := h.least (-t) b' a'
 have e : (-t).num.natAbs = t.num.natAbs := by show (-t.num).natAbs = _; exact Int.natAbs_neg _
 have e2 : (-z).num.natAbs = z.num.natAbs := by show (-z.num).natAbs = _; exact Int.natAbs_neg _
 rw [e] at k
 rw [e2]
 exact k
theorem zN4 {x y : Rat} (h : Lt x y) : Int.sign (x.num * y.den - y.num * x.den) = -1 := Int.sign_eq_neg_one_of_neg (by unfold Lt at h; omega)
theorem zD0 (x : Rat) : 0 < (x.den : Int) := by have := x.den_pos; omega
theorem zN7 {q : RVal} {x : Rat} {w : World} (h : q.In w) (hx : rv q.o q.od = some x) : decide (x.num < 0) = q.g /\ (decide (0 < q.n) = !decide (x.num = 0)) := by
 have o := (zC1 hx).1
 refine ⟨zK2 (show ov q.g q.xs = some x.num from o), ?_⟩
 have l := zG5 h.1 (show ov q.g q.xs = some x.num from o)
 rw [<- l]
 by_cases k : q.n = 0
 . rw [decide_eq_true k, decide_eq_false (by omega)]; rfl
 . rw [decide_eq_false k, decide_eq_true (by omega)]; rfl
theorem simp_zero {x y : Rat} (h1 : x.num < 0) (h2 : 0 < y.num) (h : Lt x y) : Simp x y 0 := fun q q' w hq hq' hx hy => by
 have s := zN7 hq hx
 have s' := zN7 hq' hy
 refine (simp_mid q q' w hq hq' (fun w a b => cmp_q a b hx hy _ (zN4 h)) ⟨by rw [<- s.1]; exact decide_eq_true h1, by rw [<- s'.1]; exact decide_eq_false (by omega), by rw [s'.2, decide_eq_false (by omega)]; rfl⟩).mono fun _ _ k => ?_
 have m := mk_ok (s := 0) (d := 1) (by decide)
 rw [m.1, m.2.1, m.2.2] at k
 have e := qn 0 1 (by decide) (by decide)
 exact RetR.v (e.1.trans rfl) (e.2.trans rfl) k
end Go.Proofs.YtphinlongdoedaaGreat
