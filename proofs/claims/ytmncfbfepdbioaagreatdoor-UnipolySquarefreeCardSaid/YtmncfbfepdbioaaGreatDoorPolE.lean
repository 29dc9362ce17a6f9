/-
 Stage 2: a list of integers that the call itself makes by append: its row, whose cells are no limbs, and what its elements are. Stage 3: a list of rationals in memory (an argument, a part of one, a result), four cells an element. Stage 3: what a call knows of memory, as one list of things that older memory's staying as it was keeps; its own boxes are apart from all the rest. Stage 3: the program's functions on numbers: abandon, must, sum, difference, product, quotient, number, isZero. Stage 3: the program's coefficient and trim.
-/
import Derived.Maps.AppendAt
import Derived.Laws.Tables
import Derived.Test.YtmncfbfepdbioaaGreatDoorRatY
import Derived.Test.YtmncfbfepdbioaaGreatDoorRatRb
import Derived.Test.YtmncfbfepdbioaaGreatDoorPolX
import Derived.Test.YtmncfbfepdbioaaGreatDoorRatZi
namespace Go.Proofs.YtmncfbfepdbioaaGreatDoor
open Go.RowKit
def NoInt (u : Value) : Prop := ∀ k x, u ≠ .int k x
structure OwnC (w : World) (base : Nat) (e : TypeId) (size : Nat) (v : Value) (n : Nat) (xs : List Value) : Prop where
 own : w.ownsRow base e size v n xs
 clean : ∀ g cur, v.ownBlock = some g -> w.heap[g]? = some (.cells cur e (0, 0)) -> ∀ u ∈ cur.toList, NoInt u
section
variable {w w' : World} {base size n : Nat} {e : TypeId} {v : Value} {xs : List Value}
theorem OwnC.nil (w : World) (base : Nat) (e : TypeId) (size : Nat) : OwnC w base e size (.slice none 0 0) 0 [] := ⟨World.ownsRow_nil w base e size, fun g cur h => by cases h⟩
theorem OwnC.keep (h : OwnC w base e size v n xs) {row : Option Nat} (hg : w.grownBy w' row) (hne : v.ownBlock = none \/ v.ownBlock ≠ row) : OwnC w' base e size v n xs := by
 refine ⟨h.own.kept hg hne, fun g cur h1 h2 => h.clean g cur h1 ?_⟩
 have l := (h.own.lt g h1).2
 rw [<- hg.block g l (by rcases hne with k | k <;> rw [h1] at k <;> first | cases k | exact k)]
 exact h2
theorem OwnC.below (h : OwnC w base e size v n xs) (hb : Below w.heap.size w w') : OwnC w' base e size v n xs :=
 h.keep (row := none) ⟨hb.os, hb.tape, hb.output, hb.size, fun k hk _ => hb.block k hk⟩ (by cases v.ownBlock <;> simp)
theorem OwnC.drew (h : OwnC w base e size v n xs) : OwnC w.drew base e size v n xs := ⟨h.own, h.clean⟩
theorem OwnC.setCell (h : OwnC w base e size v n xs) {p : Addr} (hp : ∀ g, v.ownBlock = some g -> g ≠ p.block) (u : Value) : OwnC (w.setCell p u) base e size v n xs := by
 refine h.keep (row := some p.block) ⟨rfl, rfl, rfl, by simp [World.setCell], fun k _ hk => Below.heap_setCell w p u k (fun e => hk (by rw [e]))⟩ ?_
 rcases k : v.ownBlock with _ | g
 . exact Or.inl rfl
 . exact Or.inr (fun e => hp g k (by injection e))
theorem Sl.rowC {A : Option Addr} {m c : Nat} {ys : List Nat} (h : Sl w w.heap.size A m c ys) (o : OwnC w base e size v n xs) (hg : w.grownBy w' v.ownBlock) : Sl w' w'.heap.size A m c ys := by
 refine ⟨h.cap, h.reach, h.capr, h.nil_, ⟨h.reads.1, fun hm => ?_⟩, h.ok⟩
 obtain ⟨ad, hA, hb, hc⟩ := h.reads.2 hm
 refine ⟨ad, hA, Nat.lt_of_lt_of_le hb hg.size, fun j u hu => ?_⟩
 have k := hc j u hu
 rw [World.cell?_of_block (w := w) (hg.block (ad.add j).block (by rw [block_of_add]; exact hb) (fun q => ?_))]
 . exact k
 . rw [block_of_add] at q
   have l := (o.own.lt _ q.symm).2
   rcases o.own.2 with ⟨rfl, _⟩ | ⟨g, cap, cur, rfl, _, hgg, _⟩
   . cases q
   . have hgb : g = ad.block := by simpa [Value.ownBlock] using q.symm
     subst hgb
     have cl := o.clean _ cur rfl hgg
     obtain ⟨x, hx⟩ : ∃ x, u = .int .u32 x := by
      have := List.mem_of_getElem? hu
      simp only [us, List.mem_map] at this
      obtain ⟨y, _, rfl⟩ := this
      exact ⟨_, rfl⟩
     have kc : w.cell? (ad.add j) = some (.int .u32 x) := by rw [<- hx]; exact k
     have hi : cur[(ad.add j).off]? = some (.int .u32 x) := by
      unfold World.cell? at kc
      rw [block_of_add, hgg] at kc
      dsimp only at kc
      split at kc
      . cases kc
      . exact kc
     exact cl (.int .u32 x) (by rw [<- Array.getElem?_toList] at hi; exact List.mem_of_getElem? hi) .u32 x rfl
theorem zero_clean {z : Array Value} (hz : ∀ j, j < z.size -> NoInt z[j]!) (hs : 0 < z.size) (k : Nat) : ∀ u ∈ (Builtin.zeroCells z k).toList, NoInt u := by
 intro u hu
 unfold Builtin.zeroCells at hu
 rw [Array.toList_map, List.mem_map] at hu
 obtain ⟨i, _, rfl⟩ := hu
 exact hz _ (Nat.mod_lt _ hs)
theorem run_append_clean {P : Program} (t ty : TypeId) (i : TypeInfo) (z : Value) (bytes : Nat) (ht : P.underlying t = some (.slice e)) (hi : P.info? e = some i) (hz : i.zero = some z)
 (hsize : i.size = size) (hby : i.bytes = bytes) (hzs : z.cells.size = size) (hsz : 0 < size) (hown : OwnC w base e size v n xs)
 (a : Addr) (c : Nat) (news : List Value) (hl : news.length = 1 * size) (hnews : ∀ j u, news[j]? = some u -> w.cell? (a.add j) = some u) (h1 : ∀ u ∈ news, u.oneCell' = true)
 (hzc : ∀ j, j < z.cells.size -> NoInt z.cells[j]!) (hnc : ∀ u ∈ news, NoInt u) (h63 : n + 1 <= maxLen) (hbytes : (n + 1) * bytes <= 140737488355328) (hbase : base <= w.heap.size) :
 ∃ v' w', (Builtin.append_ #[t, t] ty #[v, .slice (some a) 1 c]).run P w = .ok v' w' /\ OwnC w' base e size v' (n + 1) (xs ++ news) /\ w.grownBy w' v.ownBlock /\ (v'.ownBlock = v.ownBlock \/ v'.ownBlock = some w.heap.size) := by
 obtain ⟨v', w', hr, h2, h3, _, h5⟩ := run_append_own_at (P := P) w base t ty e i z size bytes ht hi hz hsize hby hzs hsz v n xs hown.own a 1 c news hl hnews h1 h63 hbytes hbase
 refine ⟨v', w', hr, ⟨h2, ?_⟩, h3, h5⟩
 subst hsize
 subst hby
 have hsmall : n + 1 <= 9223372036854775807 := by simp only [maxLen] at h63; omega
 intro g cur hvg hcur u hu
 rcases hown.own.2 with ⟨rfl, rfl⟩ | ⟨g0, cap, cur0, rfl, hbg, hg, hnc0, hcm, hcs, htake⟩
 . have k := run_append_nil (P := P) w t ty e i z ht hi hz a 1 c news hl hnews (by omega) (by omega) (by omega)
   rw [hr] at k
   injection k with k1 k2
   subst k1
   subst k2
   have e1 : g = w.heap.size := by simpa [Value.ownBlock] using hvg.symm
   subst e1
   have k3 := heap_alloc_new w.drew (.cells (news.toArray ++ Builtin.zeroCells z.cells (grownCap w 1 0 e - 1)) e)
   have k4 : some (Obj.cells cur e (0, 0)) = some (.cells (news.toArray ++ Builtin.zeroCells z.cells (grownCap w 1 0 e - 1)) e) := hcur.symm.trans k3
   injection k4 with k5
   injection k5 with k6
   subst k6
   rw [Array.toList_append] at hu
   rcases List.mem_append.1 hu with m | m
   . exact hnc u m
   . exact zero_clean hzc (by omega) _ u m
 . by_cases hroom : n + 1 <= cap
   . have hfit : n * i.size + news.length <= cur0.size := by rw [hl, hcs, <- Nat.add_mul]; exact Nat.mul_le_mul_right _ hroom
     have k := run_append_room (P := P) w t ty e i ht hi g0 n cap cur0 hg a 1 c news hl hnews h1 hroom hfit
     rw [hr] at k
     injection k with k1 k2
     subst k1
     subst k2
     have e1 : g = g0 := by simpa [Value.ownBlock] using hvg.symm
     subst e1
     have k3 := setRow_heap w g cur0 (cur0.toList.take (n * i.size) ++ news ++ cur0.toList.drop (n * i.size + news.length)).toArray e _ hg
     rw [hcur] at k3
     injection k3 with k5
     injection k5 with k6
     subst k6
     have cl := hown.clean g cur0 rfl hg
     rcases List.mem_append.1 hu with m | m
     . rcases List.mem_append.1 m with m | m
       . exact cl u (List.mem_of_mem_take m)
       . exact hnc u m
     . exact cl u (List.mem_of_mem_drop m)
   . have holds : ∀ j u, xs[j]? = some u -> w.cell? ((⟨g0, 0, none⟩ : Addr).add j) = some u := hown.own.cells (g := g0) rfl
     have k := run_append_grow (P := P) w t ty e i z ht hi hz ⟨g0, 0, none⟩ n cap xs hown.own.1 holds a 1 c news hl hnews (by omega) (by omega) (growslice_fits (by omega) hbytes)
     rw [hr] at k
     injection k with k1 k2
     subst k1
     subst k2
     have e1 : g = w.heap.size := by simpa [Value.ownBlock] using hvg.symm
     subst e1
     have k3 := heap_alloc_new w.drew (.cells (xs.toArray ++ news.toArray ++ Builtin.zeroCells z.cells (grownCap w (n + 1) cap e - (n + 1))) e)
     have k4 : some (Obj.cells cur e (0, 0)) = some (.cells (xs.toArray ++ news.toArray ++ Builtin.zeroCells z.cells (grownCap w (n + 1) cap e - (n + 1))) e) := hcur.symm.trans k3
     injection k4 with k5
     injection k5 with k6
     subst k6
     rw [Array.toList_append, Array.toList_append] at hu
     have cl := hown.clean g0 cur0 rfl hg
     rcases List.mem_append.1 hu with m | m
     . rcases List.mem_append.1 m with m | m
       . have : u ∈ cur0.toList.take (n * i.size) := by rw [htake]; exact m
         exact cl u (List.mem_of_mem_take this)
       . exact hnc u m
     . exact zero_clean hzc (by omega) _ u m
end
end Go.Proofs.YtmncfbfepdbioaaGreatDoor
namespace Go.Proofs.YtmncfbfepdbioaaGreatDoor
open Go.RowKit
def qcells (L : List RVal) : List Value := L.flatMap fun q => [.bool q.g, .slice q.A q.n q.c, .bool q.gd, .slice q.Ad q.nd q.cd]
theorem qcells_cons (q : RVal) (L : List RVal) : qcells (q :: L) = [.bool q.g, .slice q.A q.n q.c, .bool q.gd, .slice q.Ad q.nd q.cd] ++ qcells L := by unfold qcells; rw [List.flatMap_cons]
theorem qcells_app (L M : List RVal) : qcells (L ++ M) = qcells L ++ qcells M := by unfold qcells; rw [List.flatMap_append]
theorem qcells_len : ∀ L : List RVal, (qcells L).length = L.length * 4
 | [] => rfl
 | q :: L => by
   rw [qcells_cons, List.length_append, qcells_len L, List.length_cons]
   show 4 + L.length * 4 = (L.length + 1) * 4
   omega
theorem qcells_take : ∀ (L : List RVal) (k : Nat), (qcells L).take (k * 4) = qcells (L.take k)
 | [], k => by rw [List.take_nil]; exact List.take_nil
 | q :: L, 0 => by rw [Nat.zero_mul]; rfl
 | q :: L, k + 1 => by
   rw [List.take_succ_cons, qcells_cons, qcells_cons, show (k + 1) * 4 = 4 + k * 4 by omega, List.take_append, List.take_of_length_le (show [Value.bool q.g, .slice q.A q.n q.c, .bool q.gd, .slice q.Ad q.nd q.cd].length <= 4 + k * 4 by show 4 <= _; omega)]
   rw [show (4 + k * 4 - [Value.bool q.g, .slice q.A q.n q.c, .bool q.gd, .slice q.Ad q.nd q.cd].length) = k * 4 by show 4 + k * 4 - 4 = k * 4; omega, qcells_take L k]
theorem qcells_drop : ∀ (L : List RVal) (k : Nat), (qcells L).drop (k * 4) = qcells (L.drop k)
 | [], k => by rw [List.drop_nil]; exact List.drop_nil
 | q :: L, 0 => by rw [Nat.zero_mul]; rfl
 | q :: L, k + 1 => by
   rw [List.drop_succ_cons, qcells_cons, show (k + 1) * 4 = k * 4 + 4 by omega, <- qcells_drop L k]
   rfl
theorem qcells_at {L : List RVal} {k : Nat} {q : RVal} (h : L[k]? = some q) : (qcells L)[k * 4]? = some (.bool q.g) /\ (qcells L)[k * 4 + 1]? = some (.slice q.A q.n q.c) /\ (qcells L)[k * 4 + 2]? = some (.bool q.gd) /\ (qcells L)[k * 4 + 3]? = some (.slice q.Ad q.nd q.cd) := by
 have hk : k < L.length := by
  rcases Nat.lt_or_ge k L.length with g | g
  . exact g
  . rw [List.getElem?_eq_none g] at h; cases h
 have e : L.drop k = q :: L.drop (k + 1) := by
  rw [List.drop_eq_getElem_cons hk]
  rw [List.getElem?_eq_getElem hk] at h
  injection h with h
  rw [h]
 have d : ∀ i, (qcells L)[k * 4 + i]? = (qcells (L.drop k))[i]? := fun i => by rw [<- qcells_drop, List.getElem?_drop]
 have d0 := d 0
 rw [Nat.add_zero] at d0
 rw [d0, d 1, d 2, d 3, e, qcells_cons]
 exact ⟨rfl, rfl, rfl, rfl⟩
structure PSl (w : World) (A : Option Addr) (n c : Nat) (L : List RVal) : Prop where
 cap : n <= c
 reach : n <= 2199023255552
 capr : c <= 9223372036854775807
 nil_ : A = none -> c = 0
 reads : Reads w w.heap.size 4 A n (qcells L)
 ins : ∀ q ∈ L, q.In w
section
variable {w w' : World} {A : Option Addr} {n c : Nat} {L : List RVal}
theorem PSl.len (h : PSl w A n c L) : L.length = n := by have := h.reads.1; rw [qcells_len] at this; omega
theorem PSl.nil (w : World) : PSl w none 0 0 [] := ⟨Nat.le_refl _, by decide, by decide, fun _ => rfl, Reads.none_, fun _ h => nomatch h⟩
theorem PSl.on (h : PSl w A n c L) (hb : Below w.heap.size w w') : PSl w' A n c L :=
 ⟨h.cap, h.reach, h.capr, h.nil_, (h.reads.below hb).more hb.size, fun q k => (h.ins q k).on hb⟩
theorem PSl.drew (h : PSl w A n c L) : PSl w.drew A n c L := ⟨h.cap, h.reach, h.capr, h.nil_, h.reads.drew, fun q k => (h.ins q k).drew⟩
theorem PSl.at_ (h : PSl w A n c L) {k : Nat} (hk : k < n) : ∃ (ad : Addr) (q : RVal), A = some ad /\ ad.block < w.heap.size /\ L[k]? = some q /\ q.In w /\ w.cell? (ad.add (k * 4)) = some (.bool q.g) /\ w.cell? (ad.add (k * 4 + 1)) = some (.slice q.A q.n q.c) /\ w.cell? (ad.add (k * 4 + 2)) = some (.bool q.gd) /\ w.cell? (ad.add (k * 4 + 3)) = some (.slice q.Ad q.nd q.cd) := by
 have l := h.len
 have hk' : k < L.length := by omega
 obtain ⟨ad, e, hb, hc⟩ := h.reads.2 (by omega)
 have g := List.getElem?_eq_getElem hk'
 obtain ⟨c0, c1, c2, c3⟩ := qcells_at g
 exact ⟨ad, L[k], e, hb, g, h.ins _ (List.getElem_mem hk'), hc _ _ c0, hc _ _ c1, hc _ _ c2, hc _ _ c3⟩
theorem PSl.take (h : PSl w A n c L) {k : Nat} (hk : k <= n) : PSl w A k c (L.take k) := by
 have l := h.len
 refine ⟨Nat.le_trans hk h.cap, Nat.le_trans hk h.reach, h.capr, h.nil_, ⟨?_, fun h0 => ?_⟩, fun q m => h.ins q (List.mem_of_mem_take m)⟩
 . rw [qcells_len, List.length_take]; omega
 . obtain ⟨ad, e, hb, hc⟩ := h.reads.2 (by omega)
   refine ⟨ad, e, hb, fun j u hu => hc j u ?_⟩
   rw [<- qcells_take, List.getElem?_take] at hu
   split at hu
   . exact hu
   . cases hu
theorem PSl.one (h : PSl w A n c L) {k : Nat} {q : RVal} {ad : Addr} (hA : A = some ad) (hk : L[k]? = some q) : PSl w (some (ad.add (k * 4))) 1 (c - k) [q] := by
 have l := h.len
 have hk' : k < L.length := by
  rcases Nat.lt_or_ge k L.length with g | g
  . exact g
  . rw [List.getElem?_eq_none g] at hk; cases hk
 have := h.cap
 have := h.capr
 obtain ⟨ad', e, hb, hc⟩ := h.reads.2 (by omega)
 rw [hA] at e
 injection e with e
 subst e
 refine ⟨by omega, by omega, by omega, (fun e => by cases e), ⟨rfl, fun _ => ⟨_, rfl, by rw [block_of_add]; exact hb, fun j u hu => ?_⟩⟩, fun x m => ?_⟩
 . rw [add_of_add]
   refine hc _ _ ?_
   have e2 : L.drop k = q :: L.drop (k + 1) := by
    rw [List.drop_eq_getElem_cons hk']
    rw [List.getElem?_eq_getElem hk'] at hk
    injection hk with hk
    rw [hk]
   rw [<- List.getElem?_drop, qcells_drop, e2, qcells_cons]
   rw [List.getElem?_append_left (by
    rcases Nat.lt_or_ge j 4 with g | g
    . exact g
    . rw [show qcells [q] = [.bool q.g, .slice q.A q.n q.c, .bool q.gd, .slice q.Ad q.nd q.cd] from rfl, List.getElem?_eq_none (show ([Value.bool q.g, .slice q.A q.n q.c, .bool q.gd, .slice q.Ad q.nd q.cd] : List Value).length <= j from g)] at hu
      cases hu)]
   exact hu
 . rw [List.mem_singleton.1 m]
   exact h.ins q (List.mem_of_getElem? hk)
end
end Go.Proofs.YtmncfbfepdbioaaGreatDoor
namespace Go.Proofs.YtmncfbfepdbioaaGreatDoor
open Go.RowKit
def NoU (cs : Array Value) : Prop := ∀ (i : Nat) (v : Value), cs[i]? = some v -> ∀ x, v ≠ .int .u32 x
theorem NoU.set {cs : Array Value} (h : NoU cs) {u : Value} (hu : ∀ x, u ≠ .int .u32 x) (i : Nat) : NoU (cs.setIfInBounds i u) := by
 intro j v hv
 rw [Array.getElem?_setIfInBounds] at hv
 split at hv
 . split at hv
   . injection hv with hv; subst hv; exact hu
   . cases hv
 . exact h j v hv
theorem qcells_cell {L : List RVal} {v : Value} (h : v ∈ qcells L) : (∃ b, v = .bool b) \/ ∃ A n c, v = .slice A n c := by
 unfold qcells at h
 rw [List.mem_flatMap] at h
 obtain ⟨q, _, hv⟩ := h
 simp only [List.mem_cons, List.not_mem_nil, or_false] at hv
 rcases hv with rfl | rfl | rfl | rfl
 . exact Or.inl ⟨_, rfl⟩
 . exact Or.inr ⟨_, _, _, rfl⟩
 . exact Or.inl ⟨_, rfl⟩
 . exact Or.inr ⟨_, _, _, rfl⟩
theorem qcells_noU (L : List RVal) : NoU (qcells L).toArray := by
 intro i v hv x e
 rw [List.getElem?_toArray] at hv
 rcases qcells_cell (List.mem_of_getElem? hv) with ⟨b, rfl⟩ | ⟨A, n, c, rfl⟩ <;> cases e
theorem box_noU (q : RVal) : NoU #[.bool q.g, .slice q.A q.n q.c, .bool q.gd, .slice q.Ad q.nd q.cd] := by
 have := qcells_noU [q]
 exact this
theorem qcells_set : ∀ (L : List RVal) (k : Nat) (q : RVal), k < L.length →
 ((((qcells L).set (k * 4) (.bool q.g)).set (k * 4 + 1) (.slice q.A q.n q.c)).set (k * 4 + 2) (.bool q.gd)).set (k * 4 + 3) (.slice q.Ad q.nd q.cd) = qcells (L.set k q)
 | [], _, _, h => absurd h (Nat.not_lt_zero _)
 | a :: L, 0, q, _ => rfl
 | a :: L, k + 1, q, h => by
   have ih := qcells_set L k q (Nat.lt_of_succ_lt_succ h)
   rw [List.set_cons_succ, qcells_cons, qcells_cons, <- ih, show (k + 1) * 4 = k * 4 + 4 by omega, show k * 4 + 4 + 1 = k * 4 + 1 + 4 by omega, show k * 4 + 4 + 2 = k * 4 + 2 + 4 by omega, show k * 4 + 4 + 3 = k * 4 + 3 + 4 by omega]
   rfl
def C4 (w : World) (p : Addr) (q : RVal) : Prop := w.cell? p = some (.bool q.g) /\ w.cell? ⟨p.block, p.off + 1, none⟩ = some (.slice q.A q.n q.c) /\ w.cell? ⟨p.block, p.off + 2, none⟩ = some (.bool q.gd) /\ w.cell? ⟨p.block, p.off + 3, none⟩ = some (.slice q.Ad q.nd q.cd)
theorem add_spot (ad : Addr) (j k : Nat) (hk : 0 < k) : ad.add (j + k) = ⟨(ad.add j).block, (ad.add j).off + k, none⟩ := by
 rw [<- add_of_add]
 generalize ad.add j = p
 unfold Addr.add
 rw [if_neg (by omega)]
theorem PSl.el {w : World} {A : Option Addr} {n c k : Nat} {L : List RVal} (h : PSl w A n c L) (hk : k < n) : ∃ (ad : Addr) (q : RVal) (p : Addr), A = some ad /\ L[k]? = some q /\ ad.add (k * 4) = p := by
 obtain ⟨ad, q, e, _, g, _⟩ := h.at_ hk
 exact ⟨ad, q, _, e, g, rfl⟩
theorem PSl.c4 {w : World} {A : Option Addr} {n c k : Nat} {L : List RVal} {ad p : Addr} {q : RVal} (h : PSl w A n c L) (e : A = some ad) (g : L[k]? = some q) (hp : ad.add (k * 4) = p) : C4 w p q := by
 have hk : k < L.length := by
  rcases Nat.lt_or_ge k L.length with g' | g'
  . exact g'
  . rw [List.getElem?_eq_none g'] at g; cases g
 obtain ⟨ad', q', e', _, g', _, c0, c1, c2, c3⟩ := h.at_ (k := k) (by rw [<- h.len]; exact hk)
 rw [e] at e'
 injection e' with e'
 subst e'
 rw [g] at g'
 injection g' with g'
 subst g'
 rw [add_spot ad _ 1 (by decide)] at c1
 rw [add_spot ad _ 2 (by decide)] at c2
 rw [add_spot ad _ 3 (by decide)] at c3
 subst hp
 exact ⟨c0, c1, c2, c3⟩
inductive Rs where
 | box (r : Nat) (q : RVal)
 | rat (q : RVal)
 | pol (A : Option Addr) (n c : Nat) (L : List RVal)
 | arr (r : Nat) (L : List RVal)
 | cel (r : Nat) (t : TypeId) (cs : Array Value)
def Rs.At (w : World) : Rs -> Prop
 | .box r q => Rb w r q
 | .rat q => q.In w
 | .pol A n c L => PSl w A n c L
 | .arr r L => Blk w r 27 (qcells L).toArray /\ ∀ q ∈ L, q.In w
 | .cel r t cs => Blk w r t cs /\ NoU cs
def Rs.own : Rs -> Option Nat
 | .box r _ => some r
 | .arr r _ => some r
 | .cel r _ _ => some r
 | _ => none
def Rs.Far (r : Nat) : Rs -> Prop
 | .box r' _ => r' ≠ r
 | .rat _ => True
 | .pol A n _ _ => 0 < n -> ∀ ad : Addr, A = some ad -> ad.block ≠ r
 | .arr r' _ => r' ≠ r
 | .cel r' _ _ => r' ≠ r
section
variable {w w' : World}
theorem Rs.At.on {x : Rs} (h : x.At w) (hb : Below w.heap.size w w') : x.At w' := by
 cases x with
 | box r q => exact Rb.on h hb
 | rat q => exact RVal.In.on h hb
 | pol A n c L => exact PSl.on h hb
 | arr r L => exact ⟨Blk.below h.1 hb (Blk.lt h.1), fun q k => (h.2 q k).on hb⟩
 | cel r t cs => exact ⟨Blk.below h.1 hb (Blk.lt h.1), h.2⟩
theorem Rs.At.drew {x : Rs} (h : x.At w) : x.At w.drew := by
 cases x with
 | box r q => exact Rb.drew h
 | rat q => exact RVal.In.drew h
 | pol A n c L => exact PSl.drew h
 | arr r L => exact ⟨h.1, fun q k => (h.2 q k).drew⟩
 | cel r t cs => exact h
theorem Rs.At.fresh {x : Rs} (h : x.At w) {r : Nat} (hr : w.heap.size <= r) : x.Far r := by
 cases x with
 | box r' q => exact Nat.ne_of_lt (Nat.lt_of_lt_of_le (Rb.lt h) hr)
 | rat q => trivial
 | pol A n c L =>
   intro hn ad hA
   obtain ⟨ad', e, hb, _⟩ := (show PSl w A n c L from h).reads.2 hn
   rw [hA] at e
   injection e with e
   subst e
   omega
 | arr r' L => exact Nat.ne_of_lt (Nat.lt_of_lt_of_le (Blk.lt h.1) hr)
 | cel r' t cs => exact Nat.ne_of_lt (Nat.lt_of_lt_of_le (Blk.lt h.1) hr)
theorem Rs.At.lt {x : Rs} (h : x.At w) {r : Nat} (hr : x.own = some r) : r < w.heap.size := by
 cases x with
 | box r' q => injection hr with e; subst e; exact Rb.lt h
 | rat q => cases hr
 | pol A n c L => cases hr
 | arr r' L => injection hr with e; subst e; exact Blk.lt h.1
 | cel r' t cs => injection hr with e; subst e; exact Blk.lt h.1
theorem setCell_size (w : World) (p : Addr) (u : Value) : (w.setCell p u).heap.size = w.heap.size := by simp [World.setCell]
theorem In.set {q : RVal} {r i : Nat} {t : TypeId} {cs : Array Value} (h : q.In w) (hb : Blk w r t cs) (hn : NoU cs) (hi : i < cs.size) (u : Value) : q.In (w.setCell ⟨r, i, none⟩ u) := by
 have hc : w.cell? ⟨r, i, none⟩ = some cs[i] := by rw [Blk.cell hb i, Array.getElem?_eq_getElem hi]
 have hne := hn i cs[i] (Array.getElem?_eq_getElem hi)
 exact ⟨(h.1.other hc hne u).more (by rw [setCell_size]; exact Nat.le_refl _), (h.2.other hc hne u).more (by rw [setCell_size]; exact Nat.le_refl _)⟩
theorem Rs.At.set {x : Rs} {r i : Nat} {t : TypeId} {cs : Array Value} (h : x.At w) (hb : Blk w r t cs) (hn : NoU cs) (hi : i < cs.size) (hf : x.Far r) (u : Value) : x.At (w.setCell ⟨r, i, none⟩ u) := by
 cases x with
 | box r' q => exact ⟨Blk.far (Rb.bx h) (p := ⟨r, i, none⟩) hf _, In.set (Rb.sl h) hb hn hi u⟩
 | rat q => exact In.set h hb hn hi u
 | pol A n c L =>
   have h : PSl w A n c L := h
   refine ⟨h.cap, h.reach, h.capr, h.nil_, ⟨h.reads.1, fun h0 => ?_⟩, fun q k => In.set (h.ins q k) hb hn hi u⟩
   obtain ⟨ad, e, hl, hc⟩ := h.reads.2 h0
   refine ⟨ad, e, by rw [setCell_size]; exact hl, fun j v hj => ?_⟩
   have := hc j v hj
   have hne := hf h0 ad e
   rw [World.cell?_setCell_other w _ _ u (fun e => ?_)]
   . exact this
   . have : (ad.add j).block = r := by rw [<- e]
     rw [block_of_add] at this
     exact hne this
 | arr r' L => exact ⟨Blk.far h.1 (p := ⟨r, i, none⟩) hf _, fun q k => In.set (h.2 q k) hb hn hi u⟩
 | cel r' t' cs' => exact ⟨Blk.far h.1 (p := ⟨r, i, none⟩) hf _, h.2⟩
def put4k (w : World) (r k : Nat) (q : RVal) : World := (((w.setCell ⟨r, k, none⟩ (.bool q.g)).setCell ⟨r, k + 1, none⟩ (.slice q.A q.n q.c)).setCell ⟨r, k + 2, none⟩ (.bool q.gd)).setCell ⟨r, k + 3, none⟩ (.slice q.Ad q.nd q.cd)
theorem blk_put4k {r k : Nat} {t : TypeId} {cs : Array Value} (hb : Blk w r t cs) (q : RVal) : Blk (put4k w r k q) r t ((((cs.setIfInBounds k (.bool q.g)).setIfInBounds (k + 1) (.slice q.A q.n q.c)).setIfInBounds (k + 2) (.bool q.gd)).setIfInBounds (k + 3) (.slice q.Ad q.nd q.cd)) :=
 Blk.set_ (Blk.set_ (Blk.set_ (Blk.set_ hb _ _) _ _) _ _) _ _
theorem nb (b : Bool) : ∀ x, Value.bool b ≠ .int .u32 x := fun _ e => by cases e
theorem ns (A : Option Addr) (n c : Nat) : ∀ x, Value.slice A n c ≠ .int .u32 x := fun _ e => by cases e
theorem Rs.At.put4 {x : Rs} {r k : Nat} {t : TypeId} {cs : Array Value} (h : x.At w) (hb : Blk w r t cs) (hn : NoU cs) (hi : k + 4 <= cs.size) (hf : x.Far r) (q : RVal) : x.At (put4k w r k q) := by
 have h1 := h.set hb hn (i := k) (by omega) hf (.bool q.g)
 have b1 := Blk.set_ hb k (.bool q.g)
 have n1 := hn.set (nb q.g) k
 have h2 := h1.set b1 n1 (i := k + 1) (by simp; omega) hf (.slice q.A q.n q.c)
 have b2 := Blk.set_ b1 (k + 1) (.slice q.A q.n q.c)
 have n2 := n1.set (ns q.A q.n q.c) (k + 1)
 have h3 := h2.set b2 n2 (i := k + 2) (by simp; omega) hf (.bool q.gd)
 have b3 := Blk.set_ b2 (k + 2) (.bool q.gd)
 have n3 := n2.set (nb q.gd) (k + 2)
 exact h3.set b3 n3 (i := k + 3) (by simp; omega) hf _
theorem In.put4 {p : RVal} {r k : Nat} {t : TypeId} {cs : Array Value} (h : p.In w) (hb : Blk w r t cs) (hn : NoU cs) (hi : k + 4 <= cs.size) (q : RVal) : p.In (put4k w r k q) := Rs.At.put4 (x := .rat p) h hb hn hi trivial q
end
structure Mem (w0 w : World) (l : List Rs) : Prop where
 bel : Below w0.heap.size w0 w
 all : ∀ x ∈ l, x.At w
 sep : l.Pairwise fun x y => (∀ r, x.own = some r -> y.Far r) /\ ∀ r, y.own = some r -> x.Far r
 new : ∀ x ∈ l, ∀ r, x.own = some r -> w0.heap.size <= r
section
variable {w0 w w' : World} {l l' : List Rs}
theorem Mem.nil (w : World) : Mem w w [] := ⟨Below.refl _ _, fun _ h => (nomatch h), List.Pairwise.nil, fun _ h => (nomatch h)⟩
theorem Mem.on (h : Mem w0 w l) (hb : Below w.heap.size w w') : Mem w0 w' l := ⟨below_chain h.bel h.bel.size hb, fun x k => (h.all x k).on hb, h.sep, h.new⟩
theorem Mem.drew (h : Mem w0 w l) : Mem w0 w.drew l := ⟨h.bel.drew, fun x k => (h.all x k).drew, h.sep, h.new⟩
theorem Mem.get (h : Mem w0 w l) (i : Nat) {x : Rs} (hx : l[i]? = some x) : x.At w := h.all x (List.mem_of_getElem? hx)
theorem Mem.box (h : Mem w0 w l) (i : Nat) {r : Nat} {q : RVal} (hx : l[i]? = some (.box r q)) : Rb w r q := h.get i hx
theorem Mem.rat (h : Mem w0 w l) (i : Nat) {q : RVal} (hx : l[i]? = some (.rat q)) : q.In w := h.get i hx
theorem Mem.pol (h : Mem w0 w l) (i : Nat) {A : Option Addr} {n c : Nat} {L : List RVal} (hx : l[i]? = some (.pol A n c L)) : PSl w A n c L := h.get i hx
theorem Mem.arr (h : Mem w0 w l) (i : Nat) {r : Nat} {L : List RVal} (hx : l[i]? = some (.arr r L)) : Blk w r 27 (qcells L).toArray /\ ∀ q ∈ L, q.In w := h.get i hx
theorem Mem.cel (h : Mem w0 w l) (i : Nat) {r : Nat} {t : TypeId} {cs : Array Value} (hx : l[i]? = some (.cel r t cs)) : Blk w r t cs /\ NoU cs := h.get i hx
theorem Mem.cons (h : Mem w0 w l) {x : Rs} (hx : x.At w) (hn : x.own = none) (hf : ∀ y ∈ l, ∀ r, y.own = some r -> x.Far r) : Mem w0 w (x :: l) :=
 ⟨h.bel, fun y k => by rcases List.mem_cons.1 k with rfl | k; exact hx; exact h.all y k, List.pairwise_cons.2 ⟨fun y k => ⟨fun r e => (by rw [hn] at e; cases e), hf y k⟩, h.sep⟩, fun y k r e => by
  rcases List.mem_cons.1 k with rfl | k
  . rw [hn] at e; cases e
  . exact h.new y k r e⟩
theorem Mem.addRat (h : Mem w0 w l) {q : RVal} (hq : q.In w) : Mem w0 w (.rat q :: l) := h.cons (x := .rat q) hq rfl fun _ _ _ _ => trivial
theorem Mem.old {x : Rs} (h : Mem w w l) (hl : ∀ y ∈ l, y.own = none) (hx : x.At w) (hn : x.own = none) : Mem w w (x :: l) := h.cons hx hn fun y k r e => by rw [hl y k] at e; cases e
theorem Mem.push (h : Mem w0 w l) (hb : Below w.heap.size w w') {x : Rs} {r : Nat} (hx : x.At w') (hr : x.own = some r) (hs : w.heap.size <= r) : Mem w0 w' (x :: l) := by
 have k := h.on hb
 refine ⟨k.bel, fun y m => by rcases List.mem_cons.1 m with rfl | m; exact hx; exact k.all y m, List.pairwise_cons.2 ⟨fun y m => ⟨fun r' e => ?_, fun r' e => ?_⟩, k.sep⟩, fun y m r' e => ?_⟩
 . rw [hr] at e; injection e with e; subst e; exact (h.all y m).fresh hs
 . have l1 := (h.all y m).lt e
   have hne : r ≠ r' := by omega
   cases x with
   | box r1 q => injection hr with e'; subst e'; exact hne
   | rat q => cases hr
   | pol A n c L => cases hr
   | arr r1 L => injection hr with e'; subst e'; exact hne
   | cel r1 t cs => injection hr with e'; subst e'; exact hne
 . rcases List.mem_cons.1 m with rfl | m
   . rw [hr] at e; injection e with e; subst e; exact Nat.le_trans h.bel.size hs
   . exact h.new y m r' e
theorem Mem.newBox (h : Mem w0 w l) {q : RVal} (hq : q.In w) (r : Nat) (hr : w.heap.size = r) : Mem w0 (w.alloc (.cells #[.bool q.g, .slice q.A q.n q.c, .bool q.gd, .slice q.Ad q.nd q.cd] 27)) (.box r q :: l) := by
 subst hr
 exact h.push (x := .box w.heap.size q) (below_new _ _) (Rb.new hq) rfl (Nat.le_refl _)
theorem Mem.newNil (h : Mem w0 w l) (r : Nat) (hr : w.heap.size = r) : Mem w0 (w.alloc (.cells #[.bool false, .slice none 0 0, .bool false, .slice none 0 0] 27)) (.box r RVal.nil :: l) := h.newBox (RVal.nil_in w) r hr
theorem Mem.newCel (h : Mem w0 w l) {t : TypeId} {cs : Array Value} (hn : NoU cs) (r : Nat) (hr : w.heap.size = r) : Mem w0 (w.alloc (.cells cs t)) (.cel r t cs :: l) := by
 subst hr
 exact h.push (x := .cel w.heap.size t cs) (below_new _ _) ⟨Blk.new w t cs, hn⟩ rfl (Nat.le_refl _)
theorem Mem.sub (h : Mem w0 w l) (hs : l'.Sublist l) : Mem w0 w l' := ⟨h.bel, fun x k => h.all x (hs.subset k), h.sep.sublist hs, fun x k => h.new x (hs.subset k)⟩
theorem Mem.drop (h : Mem w0 w l) (k : Nat) : Mem w0 w (l.drop k) := h.sub (List.drop_sublist k l)
theorem Mem.perm (h : Mem w0 w l) (hs : l.Perm l') : Mem w0 w l' := ⟨h.bel, fun x k => h.all x (hs.symm.subset k), (hs.pairwise_iff (fun k => ⟨k.2, k.1⟩)).1 h.sep, fun x k => h.new x (hs.symm.subset k)⟩
theorem Mem.setAt (h : Mem w0 w l) (i : Nat) {x y : Rs} (hx : l[i]? = some x) (hb : Below w0.heap.size w0 w') (hy : y.At w') (ho : y.own = x.own) (hf : ∀ r, x.Far r -> y.Far r) (hk : ∀ z ∈ l, (∀ r, x.own = some r -> z.Far r) -> z.At w') : Mem w0 w' (l.set i y) := by
 have hi : i < l.length := by
  rcases Nat.lt_or_ge i l.length with g | g
  . exact g
  . rw [List.getElem?_eq_none g] at hx; cases hx
 have hxe : l[i] = x := by rw [List.getElem?_eq_getElem hi] at hx; injection hx
 have sp := List.pairwise_iff_getElem.1 h.sep
 refine ⟨hb, fun z k => ?_, ?_, fun z k r e => ?_⟩
 . obtain ⟨j, hj, rfl⟩ := List.mem_iff_getElem.1 k
   rw [List.getElem_set]
   split
   . exact hy
   . rename_i hne
     rw [List.length_set] at hj
     refine hk _ (List.getElem_mem hj) fun r e => ?_
     rcases Nat.lt_or_gt_of_ne hne with g | g
     . exact (sp i j hi hj g).1 r (by rw [hxe]; exact e)
     . exact (sp j i hj hi g).2 r (by rw [hxe]; exact e)
 . rw [List.pairwise_iff_getElem]
   intro a b ha hb' hab
   rw [List.length_set] at ha hb'
   have p := sp a b ha hb' hab
   rw [List.getElem_set, List.getElem_set]
   by_cases ea : i = a
   . subst ea
     rw [if_pos rfl, if_neg (by omega)]
     rw [hxe] at p
     exact ⟨fun r e => p.1 r (by rw [<- ho]; exact e), fun r e => hf r (p.2 r e)⟩
   . rw [if_neg ea]
     by_cases eb : i = b
     . subst eb
       rw [if_pos rfl]
       rw [hxe] at p
       exact ⟨fun r e => hf r (p.1 r e), fun r e => p.2 r (by rw [<- ho]; exact e)⟩
     . rw [if_neg eb]; exact p
 . obtain ⟨j, hj, rfl⟩ := List.mem_iff_getElem.1 k
   rw [List.length_set] at hj
   rw [List.getElem_set] at e
   split at e
   . exact h.new x (List.mem_of_getElem? hx) r (by rw [<- ho]; exact e)
   . exact h.new _ (List.getElem_mem hj) r e
theorem below_put4k {B : Nat} {a w : World} (h : Below B a w) {r : Nat} (hr : B <= r) (k : Nat) (q : RVal) : Below B a (put4k w r k q) := (((h.setCell hr _).setCell hr _).setCell hr _).setCell hr _
theorem Mem.put (h : Mem w0 w l) (i : Nat) {r : Nat} {p q : RVal} (hx : l[i]? = some (.box r p)) (hq : q.In w) : Mem w0 (put4k w r 0 q) (l.set i (.box r q)) := by
 have hb := (h.box i hx).bx
 refine h.setAt i hx (below_put4k h.bel (h.new _ (List.mem_of_getElem? hx) r rfl) 0 q) ⟨?_, In.put4 hq hb (box_noU p) (by show 0 + 4 <= 4; decide) q⟩ rfl (fun _ k => k) fun z hz hf => (h.all z hz).put4 hb (box_noU p) (by show 0 + 4 <= 4; decide) (hf r rfl) q
 have := blk_put4k (k := 0) hb q
 exact this
theorem Mem.putU {U : World} (h : Mem w0 w l) (i : Nat) {r : Nat} {p q : RVal} (hx : l[i]? = some (.box r p)) (hq : q.In w)
 (hU : (((w.setCell ⟨r, 0, none⟩ (.bool q.g)).setCell ⟨r, 1, none⟩ (.slice q.A q.n q.c)).setCell ⟨r, 2, none⟩ (.bool q.gd)).setCell ⟨r, 3, none⟩ (.slice q.Ad q.nd q.cd) = U) : Mem w0 U (l.set i (.box r q)) := hU ▸ h.put i hx hq
theorem Mem.putRow (h : Mem w0 w l) (i : Nat) {r : Nat} {L : List RVal} {q : RVal} (hx : l[i]? = some (.arr r L)) {k : Nat} (hk : k < L.length) (hq : q.In w) : Mem w0 (put4k w r (k * 4) q) (l.set i (.arr r (L.set k q))) := by
 have hb := (h.arr i hx).1
 have hs : k * 4 + 4 <= (qcells L).toArray.size := by rw [List.size_toArray, qcells_len]; omega
 refine h.setAt i hx (below_put4k h.bel (h.new _ (List.mem_of_getElem? hx) r rfl) _ q) ⟨?_, fun p m => ?_⟩ rfl (fun _ k => k) fun z hz hf => (h.all z hz).put4 hb (qcells_noU L) hs (hf r rfl) q
 . have := blk_put4k (k := k * 4) hb q
   rw [List.setIfInBounds_toArray, List.setIfInBounds_toArray, List.setIfInBounds_toArray, List.setIfInBounds_toArray, qcells_set L k q hk] at this
   exact this
 . rcases List.mem_or_eq_of_mem_set m with m | rfl
   . exact In.put4 ((h.arr i hx).2 p m) hb (qcells_noU L) hs q
   . exact In.put4 hq hb (qcells_noU L) hs p
theorem Mem.putCel (h : Mem w0 w l) (i : Nat) {r : Nat} {t : TypeId} {cs : Array Value} (hx : l[i]? = some (.cel r t cs)) (k : Nat) (hk : k < cs.size) {u : Value} (hu : ∀ x, u ≠ .int .u32 x) : Mem w0 (w.setCell ⟨r, k, none⟩ u) (l.set i (.cel r t (cs.setIfInBounds k u))) := by
 obtain ⟨hb, hn⟩ := h.cel i hx
 exact h.setAt i hx (h.bel.setCell (h.new _ (List.mem_of_getElem? hx) r rfl) u) ⟨Blk.set_ hb k u, hn.set hu k⟩ rfl (fun _ k => k) fun z hz hf => (h.all z hz).set hb hn hk (hf r rfl) u
theorem psl_arr {r : Nat} {L : List RVal} (h : Blk w r 27 (qcells L).toArray /\ ∀ q ∈ L, q.In w) (hl : L.length <= 2199023255552) : PSl w (some ⟨r, 0, none⟩) L.length L.length L := by
 refine ⟨Nat.le_refl _, hl, by omega, (fun e => by cases e), ⟨qcells_len L, fun _ => ⟨⟨r, 0, none⟩, rfl, Blk.lt h.1, fun j u hu => ?_⟩⟩, h.2⟩
 have add : (⟨r, 0, none⟩ : Addr).add j = ⟨r, j, none⟩ := by unfold Addr.add; split <;> simp_all
 rw [add, Blk.cell h.1 j, List.getElem?_toArray]
 exact hu
end
end Go.Proofs.YtmncfbfepdbioaaGreatDoor
namespace Go.Proofs.YtmncfbfepdbioaaGreatDoor
open Go.RowKit
def RVal.v (q : RVal) : Option Rat := rv q.o q.od
theorem fz_lt {z : Int} : fz z = true ↔ z.natAbs < BIG := decide_eq_true_iff
def PanW (er : Int) (w : World) (e : Ending) (w' : World) : Prop := e = .panicked [{ v := .iface 109 (.agg #[.int .i64 er]), recovered := false }] /\ Below w.heap.size w w'
def OutW (r : Except Int Rat) (w : World) (e : Ending) (w' : World) : Prop := match r with
 | .ok x => RetW x w e w'
 | .error er => PanW er w e w'
theorem if_okO {b : Bool} {x z : Rat} (h : (if b = true then (.ok x : Except Int Rat) else .error 2) = .ok z) : b = true /\ x = z := by
 rcases b with _ | _
 . cases h
 . injection h with h; exact ⟨rfl, h⟩
theorem if_errO {b : Bool} {x : Rat} {er : Int} (h : (if b = true then (.ok x : Except Int Rat) else .error 2) = .error er) : ¬ b = true /\ er = 2 := by
 rcases b with _ | _
 . injection h with h; exact ⟨by simp, h.symm⟩
 . cases h
section
variable {q q' : RVal} {x y z : Rat} {er : Int} {w : World}
theorem add_okO (h : q.In w) (h' : q'.In w) (hx : q.v = some x) (hy : q'.v = some y) (hz : addO x y = .ok z) : Calls Tryz.prog 38 #[.agg #[.bool q.g, .slice q.A q.n q.c, .bool q.gd, .slice q.Ad q.nd q.cd], .agg #[.bool q'.g, .slice q'.A q'.n q'.c, .bool q'.gd, .slice q'.Ad q'.nd q'.cd]] w (RetV z w) := by
 obtain ⟨hb, rfl⟩ := if_okO hz
 simp only [Bool.and_eq_true] at hb
 exact (add_ok h h' hx hy (fz_lt.1 hb.1.1.1) (fz_lt.1 hb.1.1.2) (fz_lt.1 hb.1.2) (fz_lt.1 hb.2)).mono fun _ _ k => RetR.v rfl rfl k
theorem add_errO (h : q.In w) (h' : q'.In w) (hx : q.v = some x) (hy : q'.v = some y) (hz : addO x y = .error er) : er ≠ 0 /\ Calls Tryz.prog 38 #[.agg #[.bool q.g, .slice q.A q.n q.c, .bool q.gd, .slice q.Ad q.nd q.cd], .agg #[.bool q'.g, .slice q'.A q'.n q'.c, .bool q'.gd, .slice q'.Ad q'.nd q'.cd]] w (RetR 0 0 er w) := by
 obtain ⟨hb, rfl⟩ := if_errO hz
 refine ⟨by decide, add_no h h' hx hy fun k => hb ?_⟩
 simp only [Bool.and_eq_true]
 exact ⟨⟨⟨fz_lt.2 k.1, fz_lt.2 k.2.1⟩, fz_lt.2 k.2.2.1⟩, fz_lt.2 k.2.2.2⟩
theorem sub_okO (h : q.In w) (h' : q'.In w) (hx : q.v = some x) (hy : q'.v = some y) (hz : subO x y = .ok z) : Calls Tryz.prog 129 #[.agg #[.bool q.g, .slice q.A q.n q.c, .bool q.gd, .slice q.Ad q.nd q.cd], .agg #[.bool q'.g, .slice q'.A q'.n q'.c, .bool q'.gd, .slice q'.Ad q'.nd q'.cd]] w (RetV z w) := by
 obtain ⟨hb, rfl⟩ := if_okO hz
 simp only [Bool.and_eq_true] at hb
 exact (sub_ok h h' hx hy (fz_lt.1 hb.1.1.1) (fz_lt.1 hb.1.1.2) (fz_lt.1 hb.1.2) (fz_lt.1 hb.2)).mono fun _ _ k => RetR.v rfl rfl k
theorem sub_errO (h : q.In w) (h' : q'.In w) (hx : q.v = some x) (hy : q'.v = some y) (hz : subO x y = .error er) : er ≠ 0 /\ Calls Tryz.prog 129 #[.agg #[.bool q.g, .slice q.A q.n q.c, .bool q.gd, .slice q.Ad q.nd q.cd], .agg #[.bool q'.g, .slice q'.A q'.n q'.c, .bool q'.gd, .slice q'.Ad q'.nd q'.cd]] w (RetR 0 0 er w) := by
 obtain ⟨hb, rfl⟩ := if_errO hz
 refine ⟨by decide, sub_no h h' hx hy fun k => hb ?_⟩
 simp only [Bool.and_eq_true]
 exact ⟨⟨⟨fz_lt.2 k.1, fz_lt.2 k.2.1⟩, fz_lt.2 k.2.2.1⟩, fz_lt.2 k.2.2.2⟩
theorem mul_okO (h : q.In w) (h' : q'.In w) (hx : q.v = some x) (hy : q'.v = some y) (hz : mulO x y = .ok z) : Calls Tryz.prog 39 #[.agg #[.bool q.g, .slice q.A q.n q.c, .bool q.gd, .slice q.Ad q.nd q.cd], .agg #[.bool q'.g, .slice q'.A q'.n q'.c, .bool q'.gd, .slice q'.Ad q'.nd q'.cd]] w (RetV z w) := by
 obtain ⟨hb, rfl⟩ := if_okO hz
 simp only [Bool.and_eq_true] at hb
 exact (mul_ok h h' hx hy (fz_lt.1 hb.1) (fz_lt.1 hb.2)).mono fun _ _ k => RetR.v rfl rfl k
theorem mul_errO (h : q.In w) (h' : q'.In w) (hx : q.v = some x) (hy : q'.v = some y) (hz : mulO x y = .error er) : er ≠ 0 /\ Calls Tryz.prog 39 #[.agg #[.bool q.g, .slice q.A q.n q.c, .bool q.gd, .slice q.Ad q.nd q.cd], .agg #[.bool q'.g, .slice q'.A q'.n q'.c, .bool q'.gd, .slice q'.Ad q'.nd q'.cd]] w (RetR 0 0 er w) := by
 obtain ⟨hb, rfl⟩ := if_errO hz
 refine ⟨by decide, mul_no h h' hx hy fun k => hb ?_⟩
 simp only [Bool.and_eq_true]
 exact ⟨fz_lt.2 k.1, fz_lt.2 k.2⟩
theorem div_okO (h : q.In w) (h' : q'.In w) (hx : q.v = some x) (hy : q'.v = some y) (hz : divO x y = .ok z) (h0 : y ≠ 0) : Calls Tryz.prog 168 #[.agg #[.bool q.g, .slice q.A q.n q.c, .bool q.gd, .slice q.Ad q.nd q.cd], .agg #[.bool q'.g, .slice q'.A q'.n q'.c, .bool q'.gd, .slice q'.Ad q'.nd q'.cd]] w (RetV z w) := by
 obtain ⟨hb, rfl⟩ := if_okO hz
 simp only [Bool.and_eq_true] at hb
 exact (div_ok h h' hx hy (fun e => h0 (Rat.num_eq_zero.1 e)) (fz_lt.1 hb.1) (fz_lt.1 hb.2)).mono fun _ _ k => RetR.v rfl rfl k
theorem div_errO (h : q.In w) (h' : q'.In w) (hx : q.v = some x) (hy : q'.v = some y) (hz : divO x y = .error er) : er ≠ 0 /\ Calls Tryz.prog 168 #[.agg #[.bool q.g, .slice q.A q.n q.c, .bool q.gd, .slice q.Ad q.nd q.cd], .agg #[.bool q'.g, .slice q'.A q'.n q'.c, .bool q'.gd, .slice q'.Ad q'.nd q'.cd]] w (RetR 0 0 er w) := by
 obtain ⟨hb, rfl⟩ := if_errO hz
 refine ⟨by decide, div_no h h' hx hy fun k => hb ?_⟩
 simp only [Bool.and_eq_true]
 exact ⟨fz_lt.2 k.1, fz_lt.2 k.2⟩
end
theorem abandon_any (er : Int) (w : World) : Calls Tryz.prog 75 #[.int .i64 er] w (PanW er w) := by
 go_enter Tryz.func75, Tryz.ntmps75
 go_wp2
 exact ⟨rfl, rfl, Below.refl _ _⟩
theorem must_ok (q : RVal) (x : Rat) (w : World) (h : q.In w) (hx : q.v = some x) : Calls Tryz.prog 127 #[.agg #[.bool q.g, .slice q.A q.n q.c, .bool q.gd, .slice q.Ad q.nd q.cd], .int .i64 0] w (RetW x w) := by
 have M := hI ((((Mem.nil w).old (x := .rat q) (by simp) h rfl).newBox h _ rfl).newBox (q := q) (h.on (below_new _ _)) (w.heap.size + 1) (by simp))
 have HV := hI hx
 clear h hx
 go_enter Tryz.func127, Tryz.ntmps127
 go_wp2
 refine bodyPost_ret (v := .agg #[.bool q.g, .slice q.A q.n q.c, .bool q.gd, .slice q.Ad q.nd q.cd]) (by simp [results, Tryz.results127, go_sem]) rfl ?_
 exact ⟨q, rfl, (M.out.box 0 rfl).sl, HV.out, M.out.bel⟩
theorem must_no (q : RVal) (er : Int) (w : World) (h : q.In w) (he : er ≠ 0) : Calls Tryz.prog 127 #[.agg #[.bool q.g, .slice q.A q.n q.c, .bool q.gd, .slice q.Ad q.nd q.cd], .int .i64 er] w (PanW er w) := by
 have M := hI ((((Mem.nil w).old (x := .rat q) (by simp) h rfl).newBox h _ rfl).newNil (w.heap.size + 1) (by simp))
 have h1 : (er != 0) = true := by rw [bne_iff_ne]; exact he
 clear h he
 go_enter Tryz.func127, Tryz.ntmps127
 go_wp2_with (go_at_call 75; refine (abandon_any er _).mono ?_; rintro e w1 ⟨rfl, hb⟩)
 exact ⟨rfl, rfl, (M.out.on hb).bel⟩
theorem usum_ok (q q' : RVal) (x y z : Rat) (w : World) (h : q.In w) (h' : q'.In w) (hx : q.v = some x) (hy : q'.v = some y) (hz : addO x y = .ok z) : Calls Tryz.prog 72 #[.agg #[.bool q.g, .slice q.A q.n q.c, .bool q.gd, .slice q.Ad q.nd q.cd], .agg #[.bool q'.g, .slice q'.A q'.n q'.c, .bool q'.gd, .slice q'.Ad q'.nd q'.cd]] w (RetW z w) := by
 have M := hI ((((((Mem.nil w).old (x := .rat q) (by simp) h rfl).old (x := .rat q') (by simp [Rs.own]) h' rfl).newBox h _ rfl).newBox (q := q') (h'.on (below_new _ _)) (w.heap.size + 1) (by simp)).newNil (w.heap.size + 1 + 1) (by simp))
 have HV := hI (And.intro hx (And.intro hy hz))
 clear h h' hx hy hz
 go_enter Tryz.func72, Tryz.ntmps72
 go_wp2_with fail
 generalize hW : World.alloc (World.alloc (World.alloc w _) _) _ = V at *
 clear hW
 refine (add_okO (M.out.rat 4 rfl) (M.out.rat 3 rfl) HV.out.1 HV.out.2.1 HV.out.2.2).mono ?_
 rintro e w1 ⟨t, rfl, ht, hv, hb⟩
 have M1 := hI ((M.out.on hb).addRat ht)
 have HT := hI hv
 clear ht hv hb M HV
 go_wp2_with fail
 refine (must_ok t z w1 (M1.out.rat 0 rfl) HT.out).mono ?_
 rintro e w2 ⟨t2, rfl, ht, hv, hb⟩
 have M2 := hI ((M1.out.on hb).addRat ht)
 have HT2 := hI hv
 clear ht hv hb M1 HT
 obtain ⟨f0, f1, f2, f3⟩ := (M2.out.box 2 rfl).fs
 obtain ⟨c0, c1, c2, c3⟩ := (M2.out.box 2 rfl).cs
 go_wp2
 clear f0 f1 f2 f3 c0 c1 c2 c3
 generalize hU : World.setCell (World.setCell (World.setCell (World.setCell w2 _ _) _ _) _ _) _ _ = U
 have M3 := hI (M2.out.putU 2 rfl (M2.out.rat 0 rfl) hU)
 clear hU
 obtain ⟨j0, j1, j2, j3⟩ := (M3.out.box 2 rfl).cs
 refine bodyPost_ret (v := .agg #[.bool t2.g, .slice t2.A t2.n t2.c, .bool t2.gd, .slice t2.Ad t2.nd t2.cd]) (by simp [results, Tryz.results72, go_sem, j0, j1, j2, j3]) rfl ?_
 exact ⟨t2, rfl, (M3.out.box 2 rfl).sl, HT2.out, M3.out.bel⟩
theorem usum_no (q q' : RVal) (x y : Rat) (er : Int) (w : World) (h : q.In w) (h' : q'.In w) (hx : q.v = some x) (hy : q'.v = some y) (hz : addO x y = .error er) : Calls Tryz.prog 72 #[.agg #[.bool q.g, .slice q.A q.n q.c, .bool q.gd, .slice q.Ad q.nd q.cd], .agg #[.bool q'.g, .slice q'.A q'.n q'.c, .bool q'.gd, .slice q'.Ad q'.nd q'.cd]] w (PanW er w) := by
 have M := hI ((((((Mem.nil w).old (x := .rat q) (by simp) h rfl).old (x := .rat q') (by simp [Rs.own]) h' rfl).newBox h _ rfl).newBox (q := q') (h'.on (below_new _ _)) (w.heap.size + 1) (by simp)).newNil (w.heap.size + 1 + 1) (by simp))
 have HV := hI (And.intro hx (And.intro hy hz))
 clear h h' hx hy hz
 go_enter Tryz.func72, Tryz.ntmps72
 go_wp2_with fail
 generalize hW : World.alloc (World.alloc (World.alloc w _) _) _ = V at *
 clear hW
 have C := add_errO (M.out.rat 4 rfl) (M.out.rat 3 rfl) HV.out.1 HV.out.2.1 HV.out.2.2
 have HN := hI C.1
 refine C.2.mono ?_
 clear C
 rintro e w1 ⟨t, rfl, ht, hv, hv2, hb⟩
 have M1 := hI ((M.out.on hb).addRat ht)
 clear ht hv hv2 hb M HV
 go_wp2_with fail
 refine (must_no t er w1 (M1.out.rat 0 rfl) HN.out).mono ?_
 rintro e w2 ⟨rfl, hb⟩
 go_wp2
 exact ⟨rfl, rfl, (M1.out.on hb).bel⟩
theorem usum_any (q q' : RVal) (x y : Rat) (w : World) (h : q.In w) (h' : q'.In w) (hx : q.v = some x) (hy : q'.v = some y) : Calls Tryz.prog 72 #[.agg #[.bool q.g, .slice q.A q.n q.c, .bool q.gd, .slice q.Ad q.nd q.cd], .agg #[.bool q'.g, .slice q'.A q'.n q'.c, .bool q'.gd, .slice q'.Ad q'.nd q'.cd]] w (OutW (addO x y) w) := by
 rcases hz : addO x y with er | z
 . exact usum_no q q' x y er w h h' hx hy hz
 . exact usum_ok q q' x y z w h h' hx hy hz
theorem udifference_ok (q q' : RVal) (x y z : Rat) (w : World) (h : q.In w) (h' : q'.In w) (hx : q.v = some x) (hy : q'.v = some y) (hz : subO x y = .ok z) : Calls Tryz.prog 78 #[.agg #[.bool q.g, .slice q.A q.n q.c, .bool q.gd, .slice q.Ad q.nd q.cd], .agg #[.bool q'.g, .slice q'.A q'.n q'.c, .bool q'.gd, .slice q'.Ad q'.nd q'.cd]] w (RetW z w) := by
 have M := hI ((((((Mem.nil w).old (x := .rat q) (by simp) h rfl).old (x := .rat q') (by simp [Rs.own]) h' rfl).newBox h _ rfl).newBox (q := q') (h'.on (below_new _ _)) (w.heap.size + 1) (by simp)).newNil (w.heap.size + 1 + 1) (by simp))
 have HV := hI (And.intro hx (And.intro hy hz))
 clear h h' hx hy hz
 go_enter Tryz.func78, Tryz.ntmps78
 go_wp2_with fail
 generalize hW : World.alloc (World.alloc (World.alloc w _) _) _ = V at *
 clear hW
 refine (sub_okO (M.out.rat 4 rfl) (M.out.rat 3 rfl) HV.out.1 HV.out.2.1 HV.out.2.2).mono ?_
 rintro e w1 ⟨t, rfl, ht, hv, hb⟩
 have M1 := hI ((M.out.on hb).addRat ht)
 have HT := hI hv
 clear ht hv hb M HV
 go_wp2_with fail
 refine (must_ok t z w1 (M1.out.rat 0 rfl) HT.out).mono ?_
 rintro e w2 ⟨t2, rfl, ht, hv, hb⟩
 have M2 := hI ((M1.out.on hb).addRat ht)
 have HT2 := hI hv
 clear ht hv hb M1 HT
 obtain ⟨f0, f1, f2, f3⟩ := (M2.out.box 2 rfl).fs
 obtain ⟨c0, c1, c2, c3⟩ := (M2.out.box 2 rfl).cs
 go_wp2
 clear f0 f1 f2 f3 c0 c1 c2 c3
 generalize hU : World.setCell (World.setCell (World.setCell (World.setCell w2 _ _) _ _) _ _) _ _ = U
 have M3 := hI (M2.out.putU 2 rfl (M2.out.rat 0 rfl) hU)
 clear hU
 obtain ⟨j0, j1, j2, j3⟩ := (M3.out.box 2 rfl).cs
 refine bodyPost_ret (v := .agg #[.bool t2.g, .slice t2.A t2.n t2.c, .bool t2.gd, .slice t2.Ad t2.nd t2.cd]) (by simp [results, Tryz.results78, go_sem, j0, j1, j2, j3]) rfl ?_
 exact ⟨t2, rfl, (M3.out.box 2 rfl).sl, HT2.out, M3.out.bel⟩
theorem udifference_no (q q' : RVal) (x y : Rat) (er : Int) (w : World) (h : q.In w) (h' : q'.In w) (hx : q.v = some x) (hy : q'.v = some y) (hz : subO x y = .error er) : Calls Tryz.prog 78 #[.agg #[.bool q.g, .slice q.A q.n q.c, .bool q.gd, .slice q.Ad q.nd q.cd], .agg #[.bool q'.g, .slice q'.A q'.n q'.c, .bool q'.gd, .slice q'.Ad q'.nd q'.cd]] w (PanW er w) := by
 have M := hI ((((((Mem.nil w).old (x := .rat q) (by simp) h rfl).old (x := .rat q') (by simp [Rs.own]) h' rfl).newBox h _ rfl).newBox (q := q') (h'.on (below_new _ _)) (w.heap.size + 1) (by simp)).newNil (w.heap.size + 1 + 1) (by simp))
 have HV := hI (And.intro hx (And.intro hy hz))
 clear h h' hx hy hz
 go_enter Tryz.func78, Tryz.ntmps78
 go_wp2_with fail
 generalize hW : World.alloc (World.alloc (World.alloc w _) _) _ = V at *
 clear hW
 have C := sub_errO (M.out.rat 4 rfl) (M.out.rat 3 rfl) HV.out.1 HV.out.2.1 HV.out.2.2
 have HN := hI C.1
 refine C.2.mono ?_
 clear C
 rintro e w1 ⟨t, rfl, ht, hv, hv2, hb⟩
 have M1 := hI ((M.out.on hb).addRat ht)
 clear ht hv hv2 hb M HV
 go_wp2_with fail
 refine (must_no t er w1 (M1.out.rat 0 rfl) HN.out).mono ?_
 rintro e w2 ⟨rfl, hb⟩
 go_wp2
 exact ⟨rfl, rfl, (M1.out.on hb).bel⟩
theorem udifference_any (q q' : RVal) (x y : Rat) (w : World) (h : q.In w) (h' : q'.In w) (hx : q.v = some x) (hy : q'.v = some y) : Calls Tryz.prog 78 #[.agg #[.bool q.g, .slice q.A q.n q.c, .bool q.gd, .slice q.Ad q.nd q.cd], .agg #[.bool q'.g, .slice q'.A q'.n q'.c, .bool q'.gd, .slice q'.Ad q'.nd q'.cd]] w (OutW (subO x y) w) := by
 rcases hz : subO x y with er | z
 . exact udifference_no q q' x y er w h h' hx hy hz
 . exact udifference_ok q q' x y z w h h' hx hy hz
theorem uproduct_ok (q q' : RVal) (x y z : Rat) (w : World) (h : q.In w) (h' : q'.In w) (hx : q.v = some x) (hy : q'.v = some y) (hz : mulO x y = .ok z) : Calls Tryz.prog 123 #[.agg #[.bool q.g, .slice q.A q.n q.c, .bool q.gd, .slice q.Ad q.nd q.cd], .agg #[.bool q'.g, .slice q'.A q'.n q'.c, .bool q'.gd, .slice q'.Ad q'.nd q'.cd]] w (RetW z w) := by
 have M := hI ((((((Mem.nil w).old (x := .rat q) (by simp) h rfl).old (x := .rat q') (by simp [Rs.own]) h' rfl).newBox h _ rfl).newBox (q := q') (h'.on (below_new _ _)) (w.heap.size + 1) (by simp)).newNil (w.heap.size + 1 + 1) (by simp))
 have HV := hI (And.intro hx (And.intro hy hz))
 clear h h' hx hy hz
 go_enter Tryz.func123, Tryz.ntmps123
 go_wp2_with fail
 generalize hW : World.alloc (World.alloc (World.alloc w _) _) _ = V at *
 clear hW
 refine (mul_okO (M.out.rat 4 rfl) (M.out.rat 3 rfl) HV.out.1 HV.out.2.1 HV.out.2.2).mono ?_
 rintro e w1 ⟨t, rfl, ht, hv, hb⟩
 have M1 := hI ((M.out.on hb).addRat ht)
 have HT := hI hv
 clear ht hv hb M HV
 go_wp2_with fail
 refine (must_ok t z w1 (M1.out.rat 0 rfl) HT.out).mono ?_
 rintro e w2 ⟨t2, rfl, ht, hv, hb⟩
 have M2 := hI ((M1.out.on hb).addRat ht)
 have HT2 := hI hv
 clear ht hv hb M1 HT
 obtain ⟨f0, f1, f2, f3⟩ := (M2.out.box 2 rfl).fs
 obtain ⟨c0, c1, c2, c3⟩ := (M2.out.box 2 rfl).cs
 go_wp2
 clear f0 f1 f2 f3 c0 c1 c2 c3
 generalize hU : World.setCell (World.setCell (World.setCell (World.setCell w2 _ _) _ _) _ _) _ _ = U
 have M3 := hI (M2.out.putU 2 rfl (M2.out.rat 0 rfl) hU)
 clear hU
 obtain ⟨j0, j1, j2, j3⟩ := (M3.out.box 2 rfl).cs
 refine bodyPost_ret (v := .agg #[.bool t2.g, .slice t2.A t2.n t2.c, .bool t2.gd, .slice t2.Ad t2.nd t2.cd]) (by simp [results, Tryz.results123, go_sem, j0, j1, j2, j3]) rfl ?_
 exact ⟨t2, rfl, (M3.out.box 2 rfl).sl, HT2.out, M3.out.bel⟩
theorem uproduct_no (q q' : RVal) (x y : Rat) (er : Int) (w : World) (h : q.In w) (h' : q'.In w) (hx : q.v = some x) (hy : q'.v = some y) (hz : mulO x y = .error er) : Calls Tryz.prog 123 #[.agg #[.bool q.g, .slice q.A q.n q.c, .bool q.gd, .slice q.Ad q.nd q.cd], .agg #[.bool q'.g, .slice q'.A q'.n q'.c, .bool q'.gd, .slice q'.Ad q'.nd q'.cd]] w (PanW er w) := by
 have M := hI ((((((Mem.nil w).old (x := .rat q) (by simp) h rfl).old (x := .rat q') (by simp [Rs.own]) h' rfl).newBox h _ rfl).newBox (q := q') (h'.on (below_new _ _)) (w.heap.size + 1) (by simp)).newNil (w.heap.size + 1 + 1) (by simp))
 have HV := hI (And.intro hx (And.intro hy hz))
 clear h h' hx hy hz
 go_enter Tryz.func123, Tryz.ntmps123
 go_wp2_with fail
 generalize hW : World.alloc (World.alloc (World.alloc w _) _) _ = V at *
 clear hW
 have C := mul_errO (M.out.rat 4 rfl) (M.out.rat 3 rfl) HV.out.1 HV.out.2.1 HV.out.2.2
 have HN := hI C.1
 refine C.2.mono ?_
 clear C
 rintro e w1 ⟨t, rfl, ht, hv, hv2, hb⟩
 have M1 := hI ((M.out.on hb).addRat ht)
 clear ht hv hv2 hb M HV
 go_wp2_with fail
 refine (must_no t er w1 (M1.out.rat 0 rfl) HN.out).mono ?_
 rintro e w2 ⟨rfl, hb⟩
 go_wp2
 exact ⟨rfl, rfl, (M1.out.on hb).bel⟩
theorem uproduct_any (q q' : RVal) (x y : Rat) (w : World) (h : q.In w) (h' : q'.In w) (hx : q.v = some x) (hy : q'.v = some y) : Calls Tryz.prog 123 #[.agg #[.bool q.g, .slice q.A q.n q.c, .bool q.gd, .slice q.Ad q.nd q.cd], .agg #[.bool q'.g, .slice q'.A q'.n q'.c, .bool q'.gd, .slice q'.Ad q'.nd q'.cd]] w (OutW (mulO x y) w) := by
 rcases hz : mulO x y with er | z
 . exact uproduct_no q q' x y er w h h' hx hy hz
 . exact uproduct_ok q q' x y z w h h' hx hy hz
theorem uquotient_ok (q q' : RVal) (x y z : Rat) (w : World) (h : q.In w) (h' : q'.In w) (hx : q.v = some x) (hy : q'.v = some y) (hz : divO x y = .ok z) (h0 : y ≠ 0) : Calls Tryz.prog 132 #[.agg #[.bool q.g, .slice q.A q.n q.c, .bool q.gd, .slice q.Ad q.nd q.cd], .agg #[.bool q'.g, .slice q'.A q'.n q'.c, .bool q'.gd, .slice q'.Ad q'.nd q'.cd]] w (RetW z w) := by
 have M := hI ((((((Mem.nil w).old (x := .rat q) (by simp) h rfl).old (x := .rat q') (by simp [Rs.own]) h' rfl).newBox h _ rfl).newBox (q := q') (h'.on (below_new _ _)) (w.heap.size + 1) (by simp)).newNil (w.heap.size + 1 + 1) (by simp))
 have HV := hI (And.intro hx (And.intro hy hz))
 have H0 := hI h0
 clear h h' hx hy hz h0
 go_enter Tryz.func132, Tryz.ntmps132
 go_wp2_with fail
 generalize hW : World.alloc (World.alloc (World.alloc w _) _) _ = V at *
 clear hW
 refine (div_okO (M.out.rat 4 rfl) (M.out.rat 3 rfl) HV.out.1 HV.out.2.1 HV.out.2.2 H0.out).mono ?_
 rintro e w1 ⟨t, rfl, ht, hv, hb⟩
 have M1 := hI ((M.out.on hb).addRat ht)
 have HT := hI hv
 clear ht hv hb M HV
 go_wp2_with fail
 refine (must_ok t z w1 (M1.out.rat 0 rfl) HT.out).mono ?_
 rintro e w2 ⟨t2, rfl, ht, hv, hb⟩
 have M2 := hI ((M1.out.on hb).addRat ht)
 have HT2 := hI hv
 clear ht hv hb M1 HT
 obtain ⟨f0, f1, f2, f3⟩ := (M2.out.box 2 rfl).fs
 obtain ⟨c0, c1, c2, c3⟩ := (M2.out.box 2 rfl).cs
 go_wp2
 clear f0 f1 f2 f3 c0 c1 c2 c3
 generalize hU : World.setCell (World.setCell (World.setCell (World.setCell w2 _ _) _ _) _ _) _ _ = U
 have M3 := hI (M2.out.putU 2 rfl (M2.out.rat 0 rfl) hU)
 clear hU
 obtain ⟨j0, j1, j2, j3⟩ := (M3.out.box 2 rfl).cs
 refine bodyPost_ret (v := .agg #[.bool t2.g, .slice t2.A t2.n t2.c, .bool t2.gd, .slice t2.Ad t2.nd t2.cd]) (by simp [results, Tryz.results132, go_sem, j0, j1, j2, j3]) rfl ?_
 exact ⟨t2, rfl, (M3.out.box 2 rfl).sl, HT2.out, M3.out.bel⟩
theorem uquotient_no (q q' : RVal) (x y : Rat) (er : Int) (w : World) (h : q.In w) (h' : q'.In w) (hx : q.v = some x) (hy : q'.v = some y) (hz : divO x y = .error er) : Calls Tryz.prog 132 #[.agg #[.bool q.g, .slice q.A q.n q.c, .bool q.gd, .slice q.Ad q.nd q.cd], .agg #[.bool q'.g, .slice q'.A q'.n q'.c, .bool q'.gd, .slice q'.Ad q'.nd q'.cd]] w (PanW er w) := by
 have M := hI ((((((Mem.nil w).old (x := .rat q) (by simp) h rfl).old (x := .rat q') (by simp [Rs.own]) h' rfl).newBox h _ rfl).newBox (q := q') (h'.on (below_new _ _)) (w.heap.size + 1) (by simp)).newNil (w.heap.size + 1 + 1) (by simp))
 have HV := hI (And.intro hx (And.intro hy hz))
 clear h h' hx hy hz
 go_enter Tryz.func132, Tryz.ntmps132
 go_wp2_with fail
 generalize hW : World.alloc (World.alloc (World.alloc w _) _) _ = V at *
 clear hW
 have C := div_errO (M.out.rat 4 rfl) (M.out.rat 3 rfl) HV.out.1 HV.out.2.1 HV.out.2.2
 have HN := hI C.1
 refine C.2.mono ?_
 clear C
 rintro e w1 ⟨t, rfl, ht, hv, hv2, hb⟩
 have M1 := hI ((M.out.on hb).addRat ht)
 clear ht hv hv2 hb M HV
 go_wp2_with fail
 refine (must_no t er w1 (M1.out.rat 0 rfl) HN.out).mono ?_
 rintro e w2 ⟨rfl, hb⟩
 go_wp2
 exact ⟨rfl, rfl, (M1.out.on hb).bel⟩
theorem uquotient_any (q q' : RVal) (x y : Rat) (w : World) (h : q.In w) (h' : q'.In w) (hx : q.v = some x) (hy : q'.v = some y) (h0 : y ≠ 0) : Calls Tryz.prog 132 #[.agg #[.bool q.g, .slice q.A q.n q.c, .bool q.gd, .slice q.Ad q.nd q.cd], .agg #[.bool q'.g, .slice q'.A q'.n q'.c, .bool q'.gd, .slice q'.Ad q'.nd q'.cd]] w (OutW (divO x y) w) := by
 rcases hz : divO x y with er | z
 . exact uquotient_no q q' x y er w h h' hx hy hz
 . exact uquotient_ok q q' x y z w h h' hx hy hz h0
theorem of_one (n : Int) : mkN (some n) (some 1) = ((n : Rat)).num /\ mkD (some n) (some 1) = (((n : Rat)).den : Int) /\ mkE (some n) (some 1) = 0 := by
 have m := mk_ok (s := n) (d := 1) (by decide)
 rw [show Rat.divInt n 1 = (n : Rat) from by simpa using Rat.num_divInt_den (n : Rat)] at m
 exact m
theorem unumber_any (n : Int) (w : World) (h1 : -9223372036854775808 <= n) (h2 : n <= 9223372036854775807) : Calls Tryz.prog 122 #[.int .i64 n] w (RetW (n : Rat) w) := by
 have M := hI ((Mem.nil w).newNil _ rfl)
 have C0 := hI fun W => ratOf_any n 1 W h1 h2 (by decide) (by decide)
 have E := hI (of_one n)
 clear h1 h2
 go_enter Tryz.func122, Tryz.ntmps122
 go_wp2_with fail
 generalize hW : World.alloc w _ = V at *
 clear hW
 have C := C0.out V
 rw [E.out.1, E.out.2.1, E.out.2.2] at C
 refine C.mono ?_
 clear C C0
 rintro e w1 ⟨t, rfl, ht, hv, hv2, hb⟩
 have M1 := hI ((M.out.on hb).addRat ht)
 have HT := hI (show t.v = some (n : Rat) by unfold RVal.v; rw [hv, hv2]; exact rv_of _)
 clear ht hv hv2 hb M
 go_wp2_with fail
 refine (must_ok t _ w1 (M1.out.rat 0 rfl) HT.out).mono ?_
 rintro e w2 ⟨t2, rfl, ht, hv, hb⟩
 have M2 := hI ((M1.out.on hb).addRat ht)
 have HT2 := hI hv
 clear ht hv hb M1 HT
 obtain ⟨f0, f1, f2, f3⟩ := (M2.out.box 2 rfl).fs
 obtain ⟨c0, c1, c2, c3⟩ := (M2.out.box 2 rfl).cs
 go_wp2
 clear f0 f1 f2 f3 c0 c1 c2 c3
 generalize hU : World.setCell (World.setCell (World.setCell (World.setCell w2 _ _) _ _) _ _) _ _ = U
 have M3 := hI (M2.out.putU 2 rfl (M2.out.rat 0 rfl) hU)
 clear hU
 obtain ⟨j0, j1, j2, j3⟩ := (M3.out.box 2 rfl).cs
 refine bodyPost_ret (v := .agg #[.bool t2.g, .slice t2.A t2.n t2.c, .bool t2.gd, .slice t2.Ad t2.nd t2.cd]) (by simp [results, Tryz.results122, go_sem, j0, j1, j2, j3]) rfl ?_
 exact ⟨t2, rfl, (M3.out.box 2 rfl).sl, HT2.out, M3.out.bel⟩
theorem n_zero {q : RVal} {x : Rat} {w : World} (h : q.In w) (hx : q.v = some x) : decide (q.n = 0) = decide (x.num = 0) := ov_len0 h.1 (rv_some hx).1
theorem uisZero_any (q : RVal) (w : World) (h : q.In w) : Calls Tryz.prog 63 #[.agg #[.bool q.g, .slice q.A q.n q.c, .bool q.gd, .slice q.Ad q.nd q.cd]] w fun e w' => e = .returned (.bool (decide (q.n = 0))) /\ Below w.heap.size w w' := by
 have M := hI ((((Mem.nil w).old (x := .rat q) (by simp) h rfl).newBox h _ rfl))
 clear h
 go_enter Tryz.func63, Tryz.ntmps63
 go_wp2
 go_ret
 refine ⟨?_, M.out.bel⟩
 show Ending.returned (.bool (((q.n : Nat) : Int) == 0)) = _
 congr 2
 rw [Bool.eq_iff_iff, beq_iff_eq, decide_eq_true_iff]
 omega
end Go.Proofs.YtmncfbfepdbioaaGreatDoor
namespace Go.Proofs.YtmncfbfepdbioaaGreatDoor
open Go.RowKit
def Vs (L : List RVal) (l : List Rat) : Prop := L.map RVal.v = l.map some
theorem Vs.len {L : List RVal} {l : List Rat} (h : Vs L l) : L.length = l.length := by have := congrArg List.length h; simpa using this
theorem Vs.at_ {L : List RVal} {l : List Rat} (h : Vs L l) {k : Nat} {q : RVal} (hk : L[k]? = some q) : q.v = some (coef l k) := by
 have := congrArg (fun t => t[k]?) h
 simp only [List.getElem?_map, hk, Option.map_some] at this
 unfold coef
 rw [List.getD_eq_getElem?_getD]
 rcases hl : l[k]? with _ | y
 . rw [hl] at this; cases this
 . rw [hl] at this
   injection this with this
theorem ptrim_snoc (l : List Rat) (x : Rat) : ptrim (l ++ [x]) = if x.num = 0 then ptrim l else l ++ [x] := by
 induction l with
 | nil => rfl
 | cons a l ih =>
   show (match ptrim (l ++ [x]) with | [] => if a.num = 0 then [] else [a] | b :: q => a :: b :: q) = _
   rw [ih]
   by_cases h : x.num = 0
   . rw [if_pos h, if_pos h]; rfl
   . rw [if_neg h, if_neg h]
     rcases hl : l ++ [x] with _ | ⟨b, q⟩
     . simp at hl
     . rw [List.cons_append, hl]
theorem ptrim_take (l : List Rat) {k : Nat} (hk : k < l.length) (h : (coef l k).num = 0) : ptrim (l.take k) = ptrim (l.take (k + 1)) := by
 have e : l.take (k + 1) = l.take k ++ [coef l k] := by
  rw [List.take_succ_eq_append_getElem hk]
  unfold coef
  rw [List.getD_eq_getElem?_getD, List.getElem?_eq_getElem hk]
  rfl
 rw [e, ptrim_snoc, if_pos h]
theorem ptrim_stop (l : List Rat) {k : Nat} (hk : k < l.length) (h : ¬ (coef l k).num = 0) : ptrim (l.take (k + 1)) = l.take (k + 1) := by
 have e : l.take (k + 1) = l.take k ++ [coef l k] := by
  rw [List.take_succ_eq_append_getElem hk]
  unfold coef
  rw [List.getD_eq_getElem?_getD, List.getElem?_eq_getElem hk]
  rfl
 rw [e, ptrim_snoc, if_neg h]
def PTr (w : World) (A : Option Addr) (n c : Nat) (L : List RVal) (l : List Rat) (k : Nat) (wr : World) : Prop := k <= n /\ ptrim (l.take k) = ptrim l /\ Mem w wr [.pol A n c L]
theorem utrim_any (A : Option Addr) (n c : Nat) (L : List RVal) (l : List Rat) (w : World) (h : PSl w A n c L) (hv : Vs L l) : Calls Tryz.prog 126 #[.slice A n c] w fun e w' => e = .returned (.slice A (ptrim l).length c) /\ Below w.heap.size w w' := by
 have hr := h.reach
 have hc := h.cap
 have hcr := h.capr
 have H0 := hI (show PTr w A n c L l n w from ⟨Nat.le_refl _, by rw [<- h.len, hv.len, List.take_length], (Mem.nil w).old (x := .pol A n c L) (by simp) h rfl⟩)
 have HV := hI hv
 clear h hv
 go_enter Tryz.func126, Tryz.ntmps126
 go_wp2_with fail
 go_loopw [3] (fun v wr => ∃ k : Nat, v = .int .i64 k /\ Hid (PTr w A n c L l k wr)) (fun v _ => (intOf v).toNat)
 case atStart => exact ⟨n, rfl, H0⟩
 case round =>
  obtain ⟨k, rfl, HR⟩ := hrel
  clear H0
  have hk := HR.out.1
  rcases k with _ | k
  . go_wp2
    go_ret
    exact ⟨by rw [<- HR.out.2.1]; rfl, HR.out.2.2.bel⟩
  . obtain ⟨ad, q, p, rfl, hq, hp⟩ := (HR.out.2.2.pol 0 rfl).el hk
    have HQ := hI ((HR.out.2.2.pol 0 rfl).ins q (List.mem_of_getElem? hq))
    have HZ := hI (n_zero HQ.out (HV.out.at_ hq))
    have HL := hI (show k < l.length by rw [<- HV.out.len, (HR.out.2.2.pol 0 rfl).len]; omega)
    obtain ⟨c0, c1, c2, c3⟩ := (HR.out.2.2.pol 0 rfl).c4 rfl hq hp
    clear hq
    have hk1 : (0 : Int) < (k : Int) + 1 := by omega
    by_cases hz : (coef l k).num = 0
    . have HZ1 := hI (HZ.out.trans (decide_eq_true hz))
      have C0 := hI fun W h => by have C := uisZero_any q W h; rw [HZ1.out] at C; exact C
      have HR1 := hI (show ∀ W, Below wr.heap.size wr W -> PTr w (some ad) n c L l k W from fun W hb => ⟨by omega, (ptrim_take l HL.out hz).trans HR.out.2.1, HR.out.2.2.on hb⟩)
      clear hz HZ HZ1 HL
      go_wp2_with fail
      refine (C0.out wr HQ.out).mono ?_
      rintro e w1 ⟨rfl, hb⟩
      have HR2 := hI (HR1.out w1 hb)
      clear hb c0 c1 c2 c3 HR HR1 HQ C0
      go_wp2
      go_roundw
      case rel => exact ⟨k, by go_num, HR2⟩
      case measure => simp [intOf]
    . have HZ1 := hI (HZ.out.trans (decide_eq_false hz))
      have C0 := hI fun W h => by have C := uisZero_any q W h; rw [HZ1.out] at C; exact C
      have HE := hI (show (ptrim l).length = k + 1 by rw [<- HR.out.2.1, ptrim_stop l HL.out hz, List.length_take]; have := HL.out; omega)
      clear hz HZ HZ1 HL
      go_wp2_with fail
      refine (C0.out wr HQ.out).mono ?_
      rintro e w1 ⟨rfl, hb⟩
      have HB := hI (HR.out.2.2.on hb).bel
      clear hb c0 c1 c2 c3 HR HQ C0
      go_wp2
      go_ret
      exact ⟨by rw [HE.out]; rfl, HB.out⟩
theorem utrim_psl {A : Option Addr} {n c : Nat} {L : List RVal} {l : List Rat} {w : World} (h : PSl w A n c L) (hv : Vs L l) : PSl w A (ptrim l).length c (L.take (ptrim l).length) /\ Vs (L.take (ptrim l).length) (ptrim l) := by
 have e : ∀ (l : List Rat), ∃ k, k <= l.length /\ ptrim l = l.take k := by
  intro l
  induction l with
  | nil => exact ⟨0, Nat.le_refl _, rfl⟩
  | cons a l ih =>
    obtain ⟨k, hk, e⟩ := ih
    show ∃ k, k <= l.length + 1 /\ (match ptrim l with | [] => if a.num = 0 then [] else [a] | b :: q => a :: b :: q) = (a :: l).take k
    rcases hl : ptrim l with _ | ⟨b, m⟩
    . by_cases h0 : a.num = 0
      . exact ⟨0, by omega, by show (if a.num = 0 then [] else [a]) = []; rw [if_pos h0]⟩
      . exact ⟨1, by omega, by show (if a.num = 0 then [] else [a]) = [a]; rw [if_neg h0]⟩
    . refine ⟨k + 1, by omega, ?_⟩
      show a :: b :: m = a :: l.take k
      rw [<- e, hl]
 obtain ⟨k, hk, ek⟩ := e l
 have hl : (ptrim l).length = k := by rw [ek, List.length_take]; omega
 rw [hl]
 refine ⟨h.take (by rw [<- h.len, hv.len]; exact hk), ?_⟩
 rw [ek]
 unfold Vs
 rw [List.map_take, List.map_take]
 exact congrArg (List.take k) hv
end Go.Proofs.YtmncfbfepdbioaaGreatDoor
