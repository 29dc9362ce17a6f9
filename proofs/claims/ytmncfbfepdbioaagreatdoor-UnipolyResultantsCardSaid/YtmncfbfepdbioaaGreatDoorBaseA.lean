/-
 Written by mkbase.py: Nat, Mem, Win, Row, Trim, Leaf, Add, Cmp, Api, Mag, Sum, AddSub, App, Digits, Mul, MulZ.
-/
import Derived.WalkKit
import Derived.Lib.Hide
import Derived.WalkSpells
import Derived.WalkLawsBesides
import Derived.Below
import Derived.Laws.OwnMore
import Derived.Deep.AppendLies
import Derived.Deep.Draws
import Derived.Laws.Rows
import Derived.BigQuiet
import Derived.Deep.QuietTactic
import Derived.Deep.DeepFit
import Derived.Laws.CopyOwn
import Derived.Deep.OwnRows
import Derived.KernelRfl
import Derived.Test.YtmncfbfepdbioaaGreatDoorProg
import Derived.Deep.RegionHeld3
import Derived.Maps.AppendAt
import Derived.RegionTactic
import Derived.OwnWalk
import Derived.IntWalk
set_option maxHeartbeats 1000000
namespace Go.Proofs.YtmncfbfepdbioaaGreatDoor
def val : List Nat -> Nat
 | [] => 0
 | x :: xs => x + 4294967296 * val xs
def lim (xs : List Nat) (k : Nat) : Nat := xs.getD k 0
theorem lim_eq (xs : List Nat) (k : Nat) : lim xs k = xs[k]?.getD 0 := by rw [lim, List.getD_eq_getElem?_getD]
theorem lim_past {xs : List Nat} {k : Nat} (h : xs.length <= k) : lim xs k = 0 := by rw [lim_eq, List.getElem?_eq_none h]; rfl
def Ok (xs : List Nat) : Prop := ∀ x ∈ xs, x < 4294967296
def Nz (xs : List Nat) : Prop := xs.getLast? ≠ some 0
theorem Ok.nil : Ok [] := by intro x h; cases h
theorem Ok.cons {x : Nat} {xs : List Nat} (h : x < 4294967296) (hs : Ok xs) : Ok (x :: xs) := by
 intro y hy
 rcases List.mem_cons.1 hy with rfl | hy
 . exact h
 . exact hs y hy
theorem Ok.head {x : Nat} {xs : List Nat} (h : Ok (x :: xs)) : x < 4294967296 := h x (by simp)
theorem Ok.tail {x : Nat} {xs : List Nat} (h : Ok (x :: xs)) : Ok xs := fun y hy => h y (by simp [hy])
theorem Ok.app {xs ys : List Nat} (h : Ok xs) (k : Ok ys) : Ok (xs ++ ys) := by
 intro x hx
 rcases List.mem_append.1 hx with hx | hx
 . exact h x hx
 . exact k x hx
theorem Ok.take {xs : List Nat} (h : Ok xs) (k : Nat) : Ok (xs.take k) := fun x hx => h x (List.mem_of_mem_take hx)
theorem Ok.drop {xs : List Nat} (h : Ok xs) (k : Nat) : Ok (xs.drop k) := fun x hx => h x (List.mem_of_mem_drop hx)
theorem Ok.lim {xs : List Nat} (h : Ok xs) (k : Nat) : Go.Proofs.YtmncfbfepdbioaaGreatDoor.lim xs k < 4294967296 := by
 rw [lim_eq]
 rcases Nat.lt_or_ge k xs.length with hk | hk
 . rw [List.getElem?_eq_getElem hk]; exact h _ (List.getElem_mem hk)
 . rw [List.getElem?_eq_none hk]; decide
theorem Ok.set {xs : List Nat} (h : Ok xs) (k : Nat) {v : Nat} (hv : v < 4294967296) : Ok (xs.set k v) := by
 intro x hx
 rcases List.mem_or_eq_of_mem_set hx with hx | rfl
 . exact h x hx
 . exact hv
theorem val_nil : val [] = 0 := rfl
theorem val_cons (x : Nat) (xs : List Nat) : val (x :: xs) = x + 4294967296 * val xs := rfl
theorem val_app (xs ys : List Nat) : val (xs ++ ys) = val xs + 4294967296 ^ xs.length * val ys := by
 induction xs with
 | nil => simp [val]
 | cons x xs ih =>
   simp only [List.cons_append, val, ih, List.length_cons, Nat.pow_succ]
   generalize 4294967296 ^ xs.length = p
   rw [Nat.mul_add, Nat.mul_comm p 4294967296, Nat.mul_assoc]
   omega
theorem val_snoc (xs : List Nat) (v : Nat) : val (xs ++ [v]) = val xs + 4294967296 ^ xs.length * v := by
 rw [val_app]; simp [val]
theorem val_zeros (n : Nat) : val (List.replicate n 0) = 0 := by
 induction n with
 | zero => rfl
 | succ n ih => simp [List.replicate_succ, val, ih]
theorem pow_pos' (n : Nat) : 0 < 4294967296 ^ n := Nat.pow_pos (by decide)
theorem val_lt {xs : List Nat} (h : Ok xs) : val xs < 4294967296 ^ xs.length := by
 induction xs with
 | nil => simp [val]
 | cons x xs ih =>
   have h1 := h.head
   have h2 := ih h.tail
   simp only [val, List.length_cons, Nat.pow_succ]
   omega
theorem val_take_succ (xs : List Nat) (k : Nat) : val (xs.take (k + 1)) = val (xs.take k) + 4294967296 ^ k * lim xs k := by
 rcases Nat.lt_or_ge k xs.length with hk | hk
 . rw [List.take_succ_eq_append_getElem hk, val_snoc, List.length_take, Nat.min_eq_left (by omega), lim_eq, List.getElem?_eq_getElem hk]; rfl
 . rw [List.take_of_length_le (by omega), List.take_of_length_le hk, lim_eq, List.getElem?_eq_none hk]; simp
theorem val_take_drop (xs : List Nat) (k : Nat) (hk : k <= xs.length) : val xs = val (xs.take k) + 4294967296 ^ k * val (xs.drop k) := by
 have h := val_app (xs.take k) (xs.drop k)
 rw [List.take_append_drop, List.length_take, Nat.min_eq_left hk] at h
 exact h
theorem val_drop (xs : List Nat) (k : Nat) (hk : k < xs.length) : val (xs.drop k) = lim xs k + 4294967296 * val (xs.drop (k + 1)) := by
 rw [List.drop_eq_getElem_cons hk, val, lim_eq, List.getElem?_eq_getElem hk]; rfl
theorem Nz.nil : Nz [] := by simp [Nz]
theorem Nz.of_cons {x : Nat} {xs : List Nat} (h : Nz (x :: xs)) : Nz xs := by
 cases xs with
 | nil => exact Nz.nil
 | cons y ys => simpa [Nz, List.getLast?_cons_cons] using h
theorem val_pos {xs : List Nat} (hn : Nz xs) (h : xs ≠ []) : 0 < val xs := by
 induction xs with
 | nil => exact absurd rfl h
 | cons x xs ih =>
   cases xs with
   | nil =>
     have : x ≠ 0 := by rintro rfl; exact hn rfl
     simp only [val]; omega
   | cons y ys =>
     have := ih hn.of_cons (by simp)
     rw [val_cons]; omega
theorem val_zero {xs : List Nat} (hn : Nz xs) (h : val xs = 0) : xs = [] := by
 rcases xs with _ | ⟨x, xs⟩
 . rfl
 . have := val_pos hn (by simp); omega
theorem val_ge {xs : List Nat} (hn : Nz xs) (h : xs ≠ []) : 4294967296 ^ (xs.length - 1) <= val xs := by
 induction xs with
 | nil => exact absurd rfl h
 | cons x xs ih =>
   cases xs with
   | nil =>
     have : x ≠ 0 := by rintro rfl; exact hn rfl
     simp [val]; omega
   | cons y ys =>
     have h1 := ih hn.of_cons (by simp)
     simp only [List.length_cons, Nat.add_sub_cancel] at h1 ⊢
     rw [val_cons x (y :: ys), Nat.pow_succ]; omega
theorem uniq {xs ys : List Nat} (hx : Ok xs) (hy : Ok ys) (nx : Nz xs) (ny : Nz ys) (h : val xs = val ys) : xs = ys := by
 induction xs generalizing ys with
 | nil => exact (val_zero ny (by rw [<- h]; rfl)).symm
 | cons x xs ih =>
   rcases ys with _ | ⟨y, ys⟩
   . exact val_zero nx h
   . rw [val_cons, val_cons] at h
     have a := hx.head
     have b := hy.head
     have e : x = y := by omega
     have f : val xs = val ys := by omega
     rw [e, ih hx.tail hy.tail nx.of_cons ny.of_cons f]
theorem val_lt_of_length {xs ys : List Nat} (hx : Ok xs) (ny : Nz ys) (h : xs.length < ys.length) : val xs < val ys := by
 have a := val_lt hx
 have b := val_ge ny (by rintro rfl; simp at h)
 have c : 4294967296 ^ xs.length <= 4294967296 ^ (ys.length - 1) := Nat.pow_le_pow_right (by decide) (by omega)
 omega
theorem length_le {xs : List Nat} (nx : Nz xs) {n : Nat} (h : val xs < 4294967296 ^ n) : xs.length <= n := by
 rcases Nat.lt_or_ge n xs.length with hl | hl
 . have b := val_ge nx (by rintro rfl; simp at hl)
   have c : 4294967296 ^ n <= 4294967296 ^ (xs.length - 1) := Nat.pow_le_pow_right (by decide) (by omega)
   omega
 . exact hl
theorem val_drop_last (xs : List Nat) (k : Nat) (h : lim xs k = 0) : val (xs.take (k + 1)) = val (xs.take k) := by
 rw [val_take_succ, h]; simp
theorem nz_take {xs : List Nat} {k : Nat} (h : k = 0 \/ (k <= xs.length /\ lim xs (k - 1) ≠ 0)) : Nz (xs.take k) := by
 rcases h with rfl | ⟨hk, h⟩
 . simp [Nz]
 . rcases k with _ | k
   . simp [Nz]
   . intro hl
     rw [List.take_succ_eq_append_getElem (by omega), List.getLast?_concat] at hl
     simp only [Nat.add_sub_cancel] at h
     rw [lim_eq, List.getElem?_eq_getElem (by omega)] at h
     exact h (by simpa using hl)
theorem nz_iff {xs : List Nat} (h : xs ≠ []) : Nz xs ↔ lim xs (xs.length - 1) ≠ 0 := by
 have hp : 0 < xs.length := List.length_pos_iff.2 h
 rw [Nz, List.getLast?_eq_getElem?, List.getElem?_eq_getElem (by omega), lim_eq, List.getElem?_eq_getElem (by omega)]
 simp
end Go.Proofs.YtmncfbfepdbioaaGreatDoor
namespace Go.Proofs.YtmncfbfepdbioaaGreatDoor
open Go.RowKit
theorem block_of_add (a : Addr) (n : Nat) : (a.add n).block = a.block := by unfold Addr.add; split <;> rfl
theorem add_of_add (a : Addr) (i j : Nat) : (a.add i).add j = a.add (i + j) := by
 unfold Addr.add
 by_cases hi : i = 0 <;> by_cases hj : j = 0 <;> simp [hi, hj, Nat.add_assoc]
def Reads (w : World) (B size : Nat) (A : Option Addr) (n : Nat) (xs : List Value) : Prop :=
 xs.length = n * size /\ (0 < n -> ∃ ad, A = some ad /\ ad.block < B /\ ∀ j u, xs[j]? = some u -> w.cell? (ad.add j) = some u)
section
variable {w w' : World} {B B' size n : Nat} {A : Option Addr} {xs : List Value}
theorem Reads.none_ : Reads w B size A 0 [] := ⟨by simp, fun h => absurd h (by omega)⟩
theorem Reads.at_ {k : Nat} (h : Reads w B 1 A n xs) (hk : k < n) : ∃ ad u, A = some ad /\ ad.block < B /\ xs[k]? = some u /\ w.cell? (ad.add k) = some u := by
 obtain ⟨ad, e, hb, hc⟩ := h.2 (by omega)
 have hl : k < xs.length := by have := h.1; omega
 exact ⟨ad, xs[k], e, hb, List.getElem?_eq_getElem hl, hc k _ (List.getElem?_eq_getElem hl)⟩
theorem Reads.keep (h : Reads w B size A n xs) (hk : ∀ p : Addr, p.block < B -> w'.cell? p = w.cell? p) : Reads w' B size A n xs :=
 ⟨h.1, fun hn => by
  obtain ⟨ad, e, hb, hc⟩ := h.2 hn
  exact ⟨ad, e, hb, fun j u hu => (hk _ (by rw [block_of_add]; exact hb)).trans (hc j u hu)⟩⟩
theorem Reads.more (h : Reads w B size A n xs) (hB : B <= B') : Reads w B' size A n xs :=
 ⟨h.1, fun hn => by
  obtain ⟨ad, e, hb, hc⟩ := h.2 hn
  exact ⟨ad, e, by omega, hc⟩⟩
theorem Reads.below (h : Reads w B size A n xs) (hb : Below B w w') : Reads w' B size A n xs := h.keep fun _ hp => hb.cell hp
theorem Reads.drew (h : Reads w B size A n xs) : Reads w.drew B size A n xs := h
theorem Reads.drewN (h : Reads w B size A n xs) (k : Nat) : Reads (w.drewN k) B size A n xs := h
theorem Reads.alloc (h : Reads w B size A n xs) (hB : B <= w.heap.size) (o : Obj) : Reads (w.alloc o) B size A n xs := h.keep fun p hp => World.cell?_alloc_lt w o p (by omega)
theorem Reads.setCell (h : Reads w B size A n xs) {p : Addr} (hB : B <= p.block) (u : Value) : Reads (w.setCell p u) B size A n xs :=
 h.keep fun q hq => World.cell?_setCell_other w p q u (fun e => by subst e; omega)
theorem Reads.grown (h : Reads w B size A n xs) {row : Option Nat} (hg : w.grownBy w' row) (hB : B <= w.heap.size) (hr : ∀ g, row = some g -> B <= g) : Reads w' B size A n xs :=
 h.keep fun p hp => World.cell?_of_block (hg.block p.block (by omega) (fun e => by have := hr _ e.symm; omega))
theorem Reads.cut (h : Reads w B size A n xs) {k cap : Nat} (hk : k <= n) (hc : n <= cap) :
 Reads w B size (if cap = k then A else A.map (·.add (k * size))) (n - k) (xs.drop (k * size)) := by
 refine ⟨by rw [List.length_drop, h.1, Nat.sub_mul], fun hn => ?_⟩
 obtain ⟨ad, rfl, hb, hcell⟩ := h.2 (by omega)
 rw [if_neg (by omega)]
 refine ⟨ad.add (k * size), rfl, by rw [block_of_add]; exact hb, fun j u hu => ?_⟩
 rw [add_of_add]
 exact hcell _ u (by rw [<- hu, List.getElem?_drop])
theorem Reads.of_own {base : Nat} {e : TypeId} {c : Nat} (h : w.ownsRow base e size (.slice A n c) n xs) : Reads w w.heap.size size A n xs := by
 refine ⟨h.1, fun hn => ?_⟩
 obtain ⟨g, cap, hv, _, hlt⟩ := h.form hn
 have hA : A = some ⟨g, 0, none⟩ := by injection hv
 subst hA
 exact ⟨_, rfl, hlt, h.cells (g := g) rfl⟩
end
def Blk (w : World) (g : Nat) (t : TypeId) (cs : Array Value) : Prop := w.heap[g]? = some (.cells cs t (0, 0))
section
variable {w w' : World} {g : Nat} {t : TypeId} {cs : Array Value}
theorem Blk.lt (h : Blk w g t cs) : g < w.heap.size := by
 rcases Nat.lt_or_ge g w.heap.size with hlt | hge
 . exact hlt
 . unfold Blk at h; rw [Array.getElem?_eq_none hge] at h; cases h
theorem Blk.cell (h : Blk w g t cs) (i : Nat) : w.cell? ⟨g, i, none⟩ = cs[i]? := cell_of_row w g i cs t (0, 0) h
theorem Blk.frozen (h : Blk w g t cs) (i : Nat) : w.frozen? ⟨g, i, none⟩ = false := by
 unfold Blk at h
 simp [World.frozen?, h]
theorem Blk.new (w : World) (t : TypeId) (cs : Array Value) : Blk (w.alloc (.cells cs t)) w.heap.size t cs := heap_alloc_new w _
theorem Blk.drew (h : Blk w g t cs) : Blk w.drew g t cs := h
theorem Blk.drewN (h : Blk w g t cs) (n : Nat) : Blk (w.drewN n) g t cs := h
theorem Blk.alloc (h : Blk w g t cs) (o : Obj) : Blk (w.alloc o) g t cs := (Below.heap_alloc w o g h.lt).trans h
theorem Blk.set_ (h : Blk w g t cs) (i : Nat) (u : Value) : Blk (w.setCell ⟨g, i, none⟩ u) g t (cs.setIfInBounds i u) := by
 unfold Blk at h ⊢
 simp [World.setCell, Array.getElem?_modify, h]
theorem Blk.far (h : Blk w g t cs) {p : Addr} (hp : g ≠ p.block) (u : Value) : Blk (w.setCell p u) g t cs := (Below.heap_setCell w p u g hp).trans h
theorem Blk.below {B : Nat} (h : Blk w g t cs) (hb : Below B w w') (hg : g < B) : Blk w' g t cs := (hb.block g hg).trans h
theorem Blk.grown {row : Option Nat} (h : Blk w g t cs) (hb : w.grownBy w' row) (hg : some g ≠ row) : Blk w' g t cs := (hb.block g h.lt hg).trans h
theorem Blk.ne_ {g' : Nat} {t' : TypeId} {cs' : Array Value} (h : Blk w g t cs) (h' : Blk w g' t' cs') (hne : t ≠ t') : g ≠ g' := by
 rintro rfl
 unfold Blk at h h'
 rw [h] at h'
 injection h' with h'
 injection h' with _ ht
 exact hne ht
end
def us (xs : List Nat) : List Value := xs.map fun x : Nat => Value.int .u32 (x : Int)
theorem us_length (xs : List Nat) : (us xs).length = xs.length := by simp [us]
theorem us_get (xs : List Nat) (k : Nat) (h : k < xs.length) : (us xs)[k]? = some (.int .u32 (lim xs k : Nat)) := by
 simp [us, List.getElem?_eq_getElem h, lim_eq]
structure Sl (w : World) (B : Nat) (A : Option Addr) (n c : Nat) (xs : List Nat) : Prop where
 cap : n <= c
 reach : n <= 35184372088832
 capr : c <= 9223372036854775807
 nil_ : A = none -> c = 0
 reads : Reads w B 1 A n (us xs)
 ok : Ok xs
section
variable {w w' : World} {B B' n c : Nat} {A : Option Addr} {xs : List Nat}
theorem Sl.len (h : Sl w B A n c xs) : xs.length = n := by have := h.reads.1; rw [us_length] at this; omega
theorem Sl.cell (h : Sl w B A n c xs) {k : Nat} (hk : k < n) : ∃ ad, A = some ad /\ ad.block < B /\ w.cell? (ad.add k) = some (.int .u32 (lim xs k : Nat)) := by
 obtain ⟨ad, u, e, hb, hu, hc⟩ := h.reads.at_ hk
 rw [us_get xs k (by rw [h.len]; exact hk)] at hu
 injection hu with hu
 exact ⟨ad, e, hb, by rw [hc, hu]⟩
theorem Sl.below (h : Sl w B A n c xs) (hb : Below B w w') : Sl w' B A n c xs := ⟨h.cap, h.reach, h.capr, h.nil_, h.reads.below hb, h.ok⟩
theorem Sl.more (h : Sl w B A n c xs) (hB : B <= B') : Sl w B' A n c xs := ⟨h.cap, h.reach, h.capr, h.nil_, h.reads.more hB, h.ok⟩
theorem Sl.drew (h : Sl w B A n c xs) : Sl w.drew B A n c xs := ⟨h.cap, h.reach, h.capr, h.nil_, h.reads, h.ok⟩
theorem Sl.drewN (h : Sl w B A n c xs) (k : Nat) : Sl (w.drewN k) B A n c xs := ⟨h.cap, h.reach, h.capr, h.nil_, h.reads, h.ok⟩
theorem Sl.alloc (h : Sl w B A n c xs) (hB : B <= w.heap.size) (o : Obj) : Sl (w.alloc o) B A n c xs := ⟨h.cap, h.reach, h.capr, h.nil_, h.reads.alloc hB o, h.ok⟩
theorem Sl.setCell (h : Sl w B A n c xs) {p : Addr} (hB : B <= p.block) (u : Value) : Sl (w.setCell p u) B A n c xs := ⟨h.cap, h.reach, h.capr, h.nil_, h.reads.setCell hB u, h.ok⟩
theorem Sl.nil (w : World) (B : Nat) : Sl w B none 0 0 [] := ⟨Nat.le_refl _, by omega, by omega, fun _ => rfl, Reads.none_, Ok.nil⟩
theorem Sl.to (h : Sl w B A n c xs) {k : Nat} (hk : k <= n) : Sl w B A k c (xs.take k) := by
 refine ⟨Nat.le_trans hk h.cap, Nat.le_trans hk h.reach, h.capr, h.nil_, ⟨by rw [us_length, List.length_take, h.len]; omega, fun hp => ?_⟩, h.ok.take k⟩
 obtain ⟨ad, e, hb, hc⟩ := h.reads.2 (by omega)
 refine ⟨ad, e, hb, fun j u hu => hc j u ?_⟩
 rw [us, List.map_take, List.getElem?_take] at hu
 split at hu
 . exact hu
 . cases hu
end
end Go.Proofs.YtmncfbfepdbioaaGreatDoor
namespace Go.Proofs.YtmncfbfepdbioaaGreatDoor
def wv (zs : List Nat) (off : Nat) : Nat -> Nat
 | 0 => 0
 | k + 1 => wv zs off k + 4294967296 ^ k * lim zs (off + k)
theorem wv_zero (zs : List Nat) (off : Nat) : wv zs off 0 = 0 := rfl
theorem wv_succ (zs : List Nat) (off k : Nat) : wv zs off (k + 1) = wv zs off k + 4294967296 ^ k * lim zs (off + k) := rfl
theorem wv_congr {zs zs' : List Nat} {off off' : Nat} {k : Nat} (h : ∀ i, i < k -> lim zs' (off' + i) = lim zs (off + i)) : wv zs' off' k = wv zs off k := by
 induction k with
 | zero => rfl
 | succ k ih => rw [wv_succ, wv_succ, ih (fun i hi => h i (by omega)), h k (by omega)]
theorem wv_val (zs : List Nat) (k : Nat) : wv zs 0 k = val (zs.take k) := by
 induction k with
 | zero => simp [wv, val]
 | succ k ih => rw [wv_succ, val_take_succ, ih, Nat.zero_add]
theorem wv_all (zs : List Nat) {k : Nat} (h : zs.length <= k) : wv zs 0 k = val zs := by rw [wv_val, List.take_of_length_le h]
theorem lim_drop (zs : List Nat) (off i : Nat) : lim (zs.drop off) i = lim zs (off + i) := by rw [lim_eq, lim_eq, List.getElem?_drop]
theorem lim_take (zs : List Nat) (k i : Nat) (h : i < k) : lim (zs.take k) i = lim zs i := by rw [lim_eq, lim_eq, List.getElem?_take, if_pos h]
theorem wv_add (zs : List Nat) (off k j : Nat) : wv zs off (k + j) = wv zs off k + 4294967296 ^ k * wv zs (off + k) j := by
 induction j with
 | zero => simp [wv]
 | succ j ih => rw [<- Nat.add_assoc, wv_succ, ih, wv_succ, Nat.mul_add, Nat.pow_add, Nat.mul_assoc, Nat.add_assoc, Nat.add_assoc]
theorem wv_lt {zs : List Nat} (h : Ok zs) (off k : Nat) : wv zs off k < 4294967296 ^ k := by
 induction k with
 | zero => simp [wv]
 | succ k ih =>
   rw [wv_succ, Nat.pow_succ]
   have a := h.lim (off + k)
   have b : 4294967296 ^ k * lim zs (off + k) + 4294967296 ^ k <= 4294967296 ^ k * 4294967296 := by
    rw [<- Nat.mul_succ]; exact Nat.mul_le_mul (Nat.le_refl _) a
   omega
theorem lim_set_eq {zs : List Nat} {i v : Nat} (h : i < zs.length) : lim (zs.set i v) i = v := by rw [lim_eq, List.getElem?_set_self h]; rfl
theorem lim_set_ne {zs : List Nat} {i j v : Nat} (h : i ≠ j) : lim (zs.set i v) j = lim zs j := by rw [lim_eq, lim_eq, List.getElem?_set_ne h]
theorem wv_set_past {zs : List Nat} {off k i v : Nat} (h : off + k <= i) : wv (zs.set i v) off k = wv zs off k := wv_congr fun _ _ => lim_set_ne (by omega)
theorem wv_set_end {zs : List Nat} {off k v : Nat} (h : off + k < zs.length) : wv (zs.set (off + k) v) off (k + 1) = wv zs off k + 4294967296 ^ k * v := by
 rw [wv_succ, wv_set_past (Nat.le_refl _), lim_set_eq h]
def Same (zs zs' : List Nat) (lo hi : Nat) : Prop := zs'.length = zs.length /\ ∀ i, i < lo \/ hi <= i -> lim zs' i = lim zs i
theorem Same.refl (zs : List Nat) (lo hi : Nat) : Same zs zs lo hi := ⟨rfl, fun _ _ => rfl⟩
theorem Same.trans {a b c : List Nat} {lo hi : Nat} (h : Same a b lo hi) (k : Same b c lo hi) : Same a c lo hi := ⟨k.1.trans h.1, fun i hi => (k.2 i hi).trans (h.2 i hi)⟩
theorem Same.mono {a b : List Nat} {lo hi lo' hi' : Nat} (h : Same a b lo hi) (h1 : lo' <= lo) (h2 : hi <= hi') : Same a b lo' hi' := ⟨h.1, fun i hi => h.2 i (by omega)⟩
theorem Same.set {zs zs' : List Nat} {lo hi i : Nat} (h : Same zs zs' lo hi) (h1 : lo <= i) (h2 : i < hi) (v : Nat) : Same zs (zs'.set i v) lo hi :=
 ⟨by rw [List.length_set]; exact h.1, fun j hj => by rw [lim_set_ne (by omega)]; exact h.2 j hj⟩
theorem Same.snoc {zs zs' : List Nat} {lo k : Nat} (h : Same zs zs' lo (lo + k)) (v : Nat) : Same zs (zs'.set (lo + k) v) lo (lo + (k + 1)) :=
 (h.mono (Nat.le_refl _) (by omega)).set (by omega) (by omega) v
theorem Same.wv_past {zs zs' : List Nat} {lo hi : Nat} (h : Same zs zs' lo hi) {off k : Nat} (hk : off + k <= lo \/ hi <= off) : wv zs' off k = wv zs off k :=
 wv_congr fun i hi => h.2 _ (by omega)
theorem add_step {P S T U c b t v c' : Nat} (hv : v + 4294967296 * c' = c + b + t) (h : S + P * c = T + U) : S + P * v + P * 4294967296 * c' = (T + P * t) + (U + P * b) := by
 have e : P * v + P * (4294967296 * c') = P * c + P * b + P * t := by rw [<- Nat.mul_add, hv, Nat.mul_add, Nat.mul_add]
 rw [Nat.mul_assoc]; omega
theorem sub_step {P S T U c b t v c' : Nat} (hv : v + c + b = t + 4294967296 * c') (h : S + U = T + P * c) : S + P * v + (U + P * b) = (T + P * t) + P * 4294967296 * c' := by
 have e : P * v + P * c + P * b = P * t + P * (4294967296 * c') := by rw [<- Nat.mul_add, <- Nat.mul_add, hv, Nat.mul_add]
 rw [Nat.mul_assoc]; omega
def cmpv (a b : Nat) : Int := if a < b then -1 else if a = b then 0 else 1
theorem cmpv_lt {a b : Nat} (h : a < b) : cmpv a b = -1 := if_pos h
theorem cmpv_eq (a : Nat) : cmpv a a = 0 := by rw [cmpv, if_neg (Nat.lt_irrefl _), if_pos rfl]
theorem cmpv_gt {a b : Nat} (h : b < a) : cmpv a b = 1 := by rw [cmpv, if_neg (by omega), if_neg (by omega)]
theorem lt_of_limb {xs ys : List Nat} (hx : Ok xs) {j : Nat} (h1 : j < xs.length) (h2 : j < ys.length) (hd : val (xs.drop (j + 1)) = val (ys.drop (j + 1))) (hl : lim xs j < lim ys j) : val xs < val ys := by
 rw [val_take_drop xs j (by omega), val_take_drop ys j (by omega), val_drop xs j h1, val_drop ys j h2, hd]
 have a := val_lt (hx.take j)
 rw [List.length_take, Nat.min_eq_left (by omega)] at a
 have b : 4294967296 ^ j * (lim xs j + 4294967296 * val (ys.drop (j + 1))) + 4294967296 ^ j <= 4294967296 ^ j * (lim ys j + 4294967296 * val (ys.drop (j + 1))) := by
  rw [<- Nat.mul_succ]; exact Nat.mul_le_mul (Nat.le_refl _) (by omega)
 omega
theorem drop_eq_step {xs ys : List Nat} {j : Nat} (h1 : j < xs.length) (h2 : j < ys.length) (hd : val (xs.drop (j + 1)) = val (ys.drop (j + 1))) (hl : lim xs j = lim ys j) : val (xs.drop j) = val (ys.drop j) := by
 rw [val_drop xs j h1, val_drop ys j h2, hd, hl]
end Go.Proofs.YtmncfbfepdbioaaGreatDoor
namespace Go.Proofs.YtmncfbfepdbioaaGreatDoor
open Go.RowKit
theorem grown_trans {a b c : World} {row : Option Nat} (h : a.grownBy b row) (k : b.grownBy c row) : a.grownBy c row :=
 ⟨k.os.trans h.os, k.tape.trans h.tape, k.output.trans h.output, Nat.le_trans h.size k.size, fun i hi hne => (k.block i (Nat.lt_of_lt_of_le hi h.size) hne).trans (h.block i hi hne)⟩
theorem grown_drewN {a w : World} {row : Option Nat} (h : a.grownBy w row) (n : Nat) : a.grownBy (w.drewN n) row := ⟨h.os, h.tape, h.output, h.size, h.block⟩
theorem grown_set {a w : World} {g : Nat} (h : a.grownBy w (some g)) (i : Nat) (u : Value) : a.grownBy (w.setCell ⟨g, i, none⟩ u) (some g) :=
 ⟨h.os, h.tape, h.output, by simpa [World.setCell] using h.size, fun i hi hne => (Below.heap_setCell w _ u i (fun e => hne (by rw [e]))).trans (h.block i hi hne)⟩
theorem below_grown {B : Nat} {a w w' : World} {g : Nat} (h : Below B a w) (hg : w.grownBy w' (some g)) (hB : B <= g) (hs : B <= w.heap.size) : Below B a w' :=
 h.grown hg hs (fun k hk => by injection hk with hk; omega)
theorem below_drewN {B : Nat} {a w : World} (h : Below B a w) (n : Nat) : Below B a (w.drewN n) := ⟨h.os, h.tape, h.output, h.size, h.block⟩
def Row (w : World) (g : Nat) (zs : List Nat) : Prop := Blk w g 44 (us zs).toArray
section
variable {w w' : World} {g B n c : Nat} {zs : List Nat}
theorem Row.lt (h : Row w g zs) : g < w.heap.size := Blk.lt h
theorem Row.cell (h : Row w g zs) {i : Nat} (hi : i < zs.length) : w.cell? ⟨g, i, none⟩ = some (.int .u32 (lim zs i : Nat)) := by
 rw [Blk.cell h i, List.getElem?_toArray, us_get zs i hi]
theorem Row.free (h : Row w g zs) (i : Nat) : w.frozen? ⟨g, i, none⟩ = false := Blk.frozen h i
theorem Row.drewN (h : Row w g zs) (n : Nat) : Row (w.drewN n) g zs := h
theorem Row.drew (h : Row w g zs) : Row w.drew g zs := h
theorem Row.alloc (h : Row w g zs) (o : Obj) : Row (w.alloc o) g zs := Blk.alloc h o
theorem Row.set (h : Row w g zs) (i : Nat) (v : Nat) : Row (w.setCell ⟨g, i, none⟩ (.int .u32 (v : Int))) g (zs.set i v) := by
 have := Blk.set_ h i (.int .u32 (v : Int))
 unfold Row
 have e : (us (zs.set i v)).toArray = (us zs).toArray.setIfInBounds i (.int .u32 (v : Int)) := by
  rw [us, List.map_set]; simp [us]
 rw [e]; exact this
theorem Row.below (h : Row w g zs) (hb : Below B w w') (hg : g < B) : Row w' g zs := Blk.below h hb hg
theorem Row.grown (h : Row w g zs) {row : Option Nat} (hb : w.grownBy w' row) (hg : some g ≠ row) : Row w' g zs := Blk.grown h hb hg
theorem Row.far (h : Row w g zs) {p : Addr} (hp : g ≠ p.block) (u : Value) : Row (w.setCell p u) g zs := Blk.far h hp u
theorem Row.sl (h : Row w g zs) (hg : g < B) (off : Nat) (hn : off + n <= zs.length) (hc : n <= c) (hr : c <= 35184372088832) (hz : Ok zs) : Sl w B (some ⟨g, off, none⟩) n c ((zs.drop off).take n) := by
 refine ⟨hc, by omega, by omega, (fun e => by cases e), ⟨?_, fun hp => ⟨_, rfl, hg, fun j u hu => ?_⟩⟩, (hz.drop off).take n⟩
 . rw [us_length, List.length_take, List.length_drop]; omega
 . have hj : j < ((zs.drop off).take n).length := by
    rcases Nat.lt_or_ge j ((zs.drop off).take n).length with hl | hl
    . exact hl
    . rw [List.getElem?_eq_none (by rw [us_length]; exact hl)] at hu; cases hu
   rw [us_get _ j hj] at hu
   injection hu with hu
   rw [<- hu, lim_take _ _ _ (by rw [List.length_take] at hj; omega), lim_drop]
   have e : (Addr.mk g off none).add j = ⟨g, off + j, none⟩ := by unfold Addr.add; split <;> simp_all
   rw [e]
   exact h.cell (by rw [List.length_take, List.length_drop] at hj; omega)
end
theorem Sl.grown {w w' : World} {B n c : Nat} {A : Option Addr} {xs : List Nat} (h : Sl w B A n c xs) {g : Nat} (hg : w.grownBy w' (some g)) (hs : B <= w.heap.size) (hB : B <= g) : Sl w' B A n c xs :=
 ⟨h.cap, h.reach, h.capr, h.nil_, h.reads.grown hg hs (fun k hk => by injection hk with hk; omega), h.ok⟩
def zrow (n : Nat) : Array Value := (us (List.replicate n 0)).toArray
theorem u32_info : (Tryz.prog.info? 44).map (fun i => (i.zero, i.size, i.bytes)) = some (some (.int .u32 0), 1, 4) := by kernel_rfl
theorem u32_size : (Tryz.prog.info? 44).map (·.size) = some 1 := by kernel_rfl
theorem made_zrow (n : Nat) : madeCells #[.int .u32 0] n = zrow n := by
 unfold madeCells zrow us
 apply Array.ext
 . simp
 . intro i h1 h2
   simp [Nat.mod_one]
theorem make_any (L : Int) (n : Nat) (hL : L = n) (hn : n <= 35184372088832) (W : World) :
 (Instr.makeSlice 23 (.int .i64 L) (.int .i64 L)).run Tryz.prog W = .ok (.slice (some ⟨W.heap.size, 0, none⟩) n n) (W.alloc (.cells (zrow n) 44)) := by
 rw [hL, <- made_zrow]
 exact run_make_row' 23 44 (.int .u32 0) 4 Tryz.underlying23 u32_info rfl _ _ n (by omega) (by omega) W
theorem Row.made (W : World) (n : Nat) : Row (W.alloc (.cells (zrow n) 44)) W.heap.size (List.replicate n 0) := Blk.new W _ _
theorem ok_zeros (n : Nat) : Ok (List.replicate n 0) := by intro x hx; rw [List.mem_replicate] at hx; omega
theorem lim_zeros (n k : Nat) : lim (List.replicate n 0) k = 0 := by
 rw [lim_eq, List.getElem?_replicate]; split <;> rfl
def over (zs : List Nat) (off : Nat) (ys : List Nat) : List Nat := zs.take off ++ ys ++ zs.drop (off + ys.length)
theorem over_length {zs ys : List Nat} {off : Nat} (h : off + ys.length <= zs.length) : (over zs off ys).length = zs.length := by
 simp only [over, List.length_append, List.length_take, List.length_drop]; omega
theorem over_all {zs ys : List Nat} (h : ys.length = zs.length) : over zs 0 ys = ys := by
 simp [over, h]
theorem lim_over {zs ys : List Nat} {off i : Nat} (h : off + ys.length <= zs.length) : lim (over zs off ys) i = if off <= i /\ i < off + ys.length then lim ys (i - off) else lim zs i := by
 have hl : (zs.take off).length = off := by rw [List.length_take]; omega
 rw [over, lim_eq, List.append_assoc, List.getElem?_append, hl]
 by_cases h1 : i < off
 . rw [if_pos h1, if_neg (by omega), lim_eq, List.getElem?_take, if_pos h1]
 . rw [if_neg h1, List.getElem?_append]
   by_cases h2 : i - off < ys.length
   . rw [if_pos h2, if_pos (by omega), lim_eq]
   . rw [if_neg h2, if_neg (by omega), lim_eq, List.getElem?_drop]
     congr 2
     omega
theorem Ok.over {zs ys : List Nat} (hz : Ok zs) (hy : Ok ys) (off : Nat) : Ok (over zs off ys) := ((hz.take off).app hy).app (hz.drop _)
theorem wv_over_zeros {xs : List Nat} {m : Nat} (h : xs.length <= m) : wv (over (List.replicate m 0) 0 xs) 0 m = val xs := by
 rw [<- wv_all xs h]
 refine wv_congr fun i _ => ?_
 rw [lim_over (by rw [List.length_replicate]; omega)]
 simp only [Nat.zero_add, Nat.sub_zero]
 by_cases hi : i < xs.length
 . rw [if_pos ⟨by omega, hi⟩]
 . rw [if_neg (by omega), lim_zeros, lim_past (by omega)]
theorem copy_us {w : World} {ops : Array Oper} {rest : List Oper} {o : Oper} {a : Act} {Q : Exit -> Act -> World -> Prop} (hgd : o.guard = none) (d s : Operand)
 (ho : o.op = .call { callee := .builtin .copy, args := #[d, s], argTypes := #[23, 23] }) (g off dLen dCap n c B : Nat) (A : Option Addr) (xs zs : List Nat)
 (hd : a.eval d = .slice (some ⟨g, off, none⟩) dLen dCap) (hs : a.eval s = .slice A n c) (hr : Row w g zs) (hx : Sl w B A n c xs) (hfit : off + dLen <= zs.length)
 (h : ∀ w', Row w' g (Go.Proofs.YtmncfbfepdbioaaGreatDoor.over zs off (xs.take dLen)) -> Below g w w' -> wpList Tryz.prog ops Q rest (a.put o.dst (goInt (us (xs.take dLen)).length)) w') :
 wpList Tryz.prog ops Q (o :: rest) a w := by
 refine wpList_copy_splice hgd d s 23 23 ho 44 Tryz.underlying23 u32_size _ _ dLen dCap n c hd hs g off (us zs) 44 hr (us (xs.take dLen)) ?_ ?_ ?_ ?_ g w (Below.refl _ _) (Nat.le_refl _) ?_
 . rw [us_length, List.length_take, hx.len]; exact Nat.min_comm _ _
 . intro hp
   refine ⟨rfl, ?_⟩
   rw [us_length, List.length_take, hx.len] at hp
   obtain ⟨ad, e, _, hc⟩ := hx.reads.2 (by omega)
   refine ⟨ad, e, fun j v hj => hc j v ?_⟩
   rw [us, List.map_take, List.getElem?_take] at hj
   split at hj
   . exact hj
   . cases hj
 . rw [us_length, us_length, List.length_take]; omega
 . intro v hv
   simp only [us, List.mem_map] at hv
   obtain ⟨x, _, rfl⟩ := hv
   rfl
 . intro w' hw hb
   refine h w' ?_ hb
   have := hw.out
   unfold Row Blk
   rw [this]
   simp [splice, Go.Proofs.YtmncfbfepdbioaaGreatDoor.over, us, List.map_append, List.map_take, List.map_drop]
theorem Sl.on {w w' : World} {n c : Nat} {A : Option Addr} {xs : List Nat} (h : Sl w w.heap.size A n c xs) (hb : Below w.heap.size w w') : Sl w' w'.heap.size A n c xs := (h.below hb).more hb.size
theorem below_undrew {W w1 : World} (h : Below W.drew.heap.size W.drew w1) : Below W.heap.size W w1 := ⟨h.os, h.tape, h.output, h.size, h.block⟩
theorem below_undrewN {W w1 : World} {k : Nat} (h : Below (W.drewN k).heap.size (W.drewN k) w1) : Below W.heap.size W w1 := ⟨h.os, h.tape, h.output, h.size, h.block⟩
theorem below_chain {B : Nat} {a b c : World} (h : Below B a b) (hs : B <= b.heap.size) (k : Below b.heap.size b c) : Below B a c := h.trans (k.mono hs)
def RetNum (N : Nat) (w : World) (e : Ending) (w' : World) : Prop := ∃ A n c xs, e = .returned (.slice A n c) /\ Sl w' w'.heap.size A n c xs /\ Nz xs /\ val xs = N /\ Below w.heap.size w w'
def sg (neg : Bool) (v : Nat) : Int := if neg then -(v : Int) else (v : Int)
def BIG : Nat := 4294967296 ^ 128
def fitZ (z : Int) : Int := if z.natAbs < BIG then z else 0
def fitE (z : Int) : Int := if z.natAbs < BIG then 0 else 2
theorem fit_yes {z : Int} (h : z.natAbs < BIG) : fitZ z = z /\ fitE z = 0 := ⟨if_pos h, if_pos h⟩
theorem fit_no {z : Int} (h : ¬ z.natAbs < BIG) : fitZ z = 0 /\ fitE z = 2 := ⟨if_neg h, if_neg h⟩
theorem sg_abs (neg : Bool) (v : Nat) : (sg neg v).natAbs = v := by unfold sg; split <;> omega
theorem big_iff {xs : List Nat} (hx : Ok xs) (nx : Nz xs) : val xs < BIG ↔ xs.length <= 128 := by
 constructor
 . intro h; exact length_le nx h
 . intro h; exact Nat.lt_of_lt_of_le (val_lt hx) (Nat.pow_le_pow_right (by decide) h)
def Bx (w : World) (r : Nat) (neg : Bool) (A : Option Addr) (n c : Nat) : Prop := Blk w r 25 #[.bool neg, .slice A n c]
section
variable {w w' : World} {r : Nat} {neg : Bool} {A : Option Addr} {n c : Nat}
theorem Bx.new (w : World) (neg : Bool) (A : Option Addr) (n c : Nat) : Bx (w.alloc (.cells #[.bool neg, .slice A n c] 25)) w.heap.size neg A n c := Blk.new w _ _
theorem Bx.c0 (h : Bx w r neg A n c) : w.cell? ⟨r, 0, none⟩ = some (.bool neg) := by rw [Blk.cell h 0]; rfl
theorem Bx.c1 (h : Bx w r neg A n c) : w.cell? ⟨r, 1, none⟩ = some (.slice A n c) := by rw [Blk.cell h 1]; rfl
theorem Bx.f (h : Bx w r neg A n c) (i : Nat) : w.frozen? ⟨r, i, none⟩ = false := Blk.frozen h i
theorem Bx.below {B : Nat} (h : Bx w r neg A n c) (hb : Below B w w') (hr : r < B) : Bx w' r neg A n c := Blk.below h hb hr
theorem Bx.alloc (h : Bx w r neg A n c) (o : Obj) : Bx (w.alloc o) r neg A n c := Blk.alloc h o
theorem Bx.drew (h : Bx w r neg A n c) : Bx w.drew r neg A n c := h
theorem Bx.drewN (h : Bx w r neg A n c) (k : Nat) : Bx (w.drewN k) r neg A n c := h
theorem Bx.lt (h : Bx w r neg A n c) : r < w.heap.size := Blk.lt h
end
theorem Sl.other {w : World} {B n c : Nat} {A : Option Addr} {xs : List Nat} (h : Sl w B A n c xs) {p : Addr} {u0 : Value} (hp : w.cell? p = some u0) (hne : ∀ x, u0 ≠ .int .u32 x) (u : Value) : Sl (w.setCell p u) B A n c xs := by
 refine ⟨h.cap, h.reach, h.capr, h.nil_, ⟨h.reads.1, fun hn => ?_⟩, h.ok⟩
 obtain ⟨ad, e, hb, hc⟩ := h.reads.2 hn
 refine ⟨ad, e, hb, fun j v hj => ?_⟩
 have := hc j v hj
 rw [World.cell?_setCell_other w p _ u (fun e => ?_)]
 . exact this
 . rw [<- e, hp] at this
   injection this with this
   rw [us, List.getElem?_map] at hj
   rcases hx : xs[j]? with _ | x
   . rw [hx] at hj; cases hj
   . rw [hx] at hj
     injection hj with hj
     exact hne _ (this.trans hj.symm)
theorem Sl.ret {w : World} {n c r n0 c0 : Nat} {neg : Bool} {A A0 : Option Addr} {xs : List Nat} (h : Sl w w.heap.size A n c xs) (hr : Bx w r neg A0 n0 c0) (b : Bool) (v : Value) :
 Sl ((w.setCell ⟨r, 0, none⟩ (.bool b)).setCell ⟨r, 1, none⟩ v) ((w.setCell ⟨r, 0, none⟩ (.bool b)).setCell ⟨r, 1, none⟩ v).heap.size A n c xs := by
 have h1 := h.other hr.c0 (fun x e => by cases e) (.bool b)
 have c1 : (w.setCell ⟨r, 0, none⟩ (.bool b)).cell? ⟨r, 1, none⟩ = some (.slice A0 n0 c0) := by
  rw [World.cell?_setCell_other _ _ _ _ (by intro e; cases e)]; exact hr.c1
 exact (h1.other c1 (fun x e => by cases e) v).more (by simp [World.setCell])
theorem below_ret {B : Nat} {a w : World} (h : Below B a w) {r : Nat} (hr : B <= r) (u v : Value) : Below B a ((w.setCell ⟨r, 0, none⟩ u).setCell ⟨r, 1, none⟩ v) := (h.setCell hr u).setCell hr v
def RetI (z : Int) (w : World) (e : Ending) (w' : World) : Prop := ∃ A n c xs, e = .returned (.agg #[.bool (decide (z < 0)), .slice A n c]) /\ Sl w' w'.heap.size A n c xs /\ Nz xs /\ val xs = z.natAbs /\ Below w.heap.size w w'
def RetIE (z er : Int) (w : World) (e : Ending) (w' : World) : Prop := ∃ A n c xs, e = .returned (.tuple #[.agg #[.bool (decide (z < 0)), .slice A n c], .int .i64 er]) /\ Sl w' w'.heap.size A n c xs /\ Nz xs /\ val xs = z.natAbs /\ Below w.heap.size w w'
end Go.Proofs.YtmncfbfepdbioaaGreatDoor
namespace Go.Proofs.YtmncfbfepdbioaaGreatDoor
open Go.RowKit
theorem trim_any (A : Option Addr) (n c B : Nat) (xs : List Nat) (w : World) (h : Sl w B A n c xs) :
 Calls Tryz.prog 124 #[.slice A n c] w fun e w' => (∃ k, k <= n /\ e = .returned (.slice A k c) /\ Nz (xs.take k) /\ val (xs.take k) = val xs) /\ w = w' := by
 have hc := h.cap
 have hr := h.reach
 have hcr := h.capr
 have hl := h.len
 go_enter Tryz.func124, Tryz.ntmps124
 go_wp2
 go_loop [3] (fun i => ∃ k : Nat, k <= n /\ i = .int .i64 k /\ val (xs.take k) = val xs) (fun i => (intOf i).toNat)
 case atStart => exact ⟨n, Nat.le_refl _, rfl, by rw [List.take_of_length_le (by omega)]⟩
 case round =>
  obtain ⟨k, hk, rfl, hv⟩ := hrel
  have HV := Lib.hid hv
  clear hv hl
  rcases k with _ | k
  . go_wp2
    go_ret
    exact ⟨⟨0, by omega, rfl, nz_take (.inl rfl), HV.out⟩, rfl⟩
  . obtain ⟨ad, rfl, hb, hcell⟩ := h.cell (k := k) (by omega)
    go_wp2
    . have h0 : ((lim xs k : Nat) == (0 : Int)) = true := by assumption
      go_round
      case rel => exact ⟨k, by omega, rfl, by rw [<- HV.out, val_drop_last]; simpa using h0⟩
      case measure => simp [intOf]
    . have h0 : ((lim xs k : Nat) == (0 : Int)) = false := by assumption
      go_ret
      exact ⟨⟨k + 1, by omega, rfl, nz_take (.inr ⟨by rw [h.len]; omega, by simpa using h0⟩), HV.out⟩, rfl⟩
end Go.Proofs.YtmncfbfepdbioaaGreatDoor
namespace Go.Proofs.YtmncfbfepdbioaaGreatDoor
open Go.RowKit
theorem ofWord_any (x : Int) (w : World) (h0 : 0 <= x) (h1 : x < 18446744073709551616) :
 Calls Tryz.prog 69 #[.int .u64 x] w fun e w' => ∃ A n c xs, e = .returned (.slice A n c) /\ Sl w' w'.heap.size A n c xs /\ Nz xs /\ val xs = x.toNat /\ Below w.heap.size w w' := by
 go_enter Tryz.func69, Tryz.ntmps69
 go_wp2_with fail
 have hrow : Row (w.alloc (Obj.cells #[Value.int IntKind.u32 (x % 4294967296), Value.int IntKind.u32 (x / 4294967296)] 44)) w.heap.size [(x % 4294967296).toNat, (x / 4294967296).toNat] := by
  have e : #[Value.int IntKind.u32 (x % 4294967296), Value.int IntKind.u32 (x / 4294967296)] = (us [(x % 4294967296).toNat, (x / 4294967296).toNat]).toArray := by
   simp [us]; omega
  rw [e]; exact Blk.new w _ _
 have hok : Ok [(x % 4294967296).toNat, (x / 4294967296).toNat] := Ok.cons (by omega) (Ok.cons (by omega) Ok.nil)
 have hsl := hrow.sl (B := w.heap.size + 1) (n := 2) (c := 2) (by omega) 0 (by simp) (by omega) (by omega) hok
 refine (trim_any _ 2 2 (w.heap.size + 1) _ _ hsl).mono ?_
 rintro e w' ⟨⟨k, hk, rfl, hnz, hv⟩, rfl⟩
 go_wp2
 go_ret
 refine ⟨_, _, _, _, rfl, ?_, hnz, ?_, (Below.refl _ _).alloc (Nat.le_refl _) _⟩
 . exact (hsl.to hk).more (by simp)
 . rw [hv]; simp [val]; omega
theorem clone_any (A : Option Addr) (n c B : Nat) (xs : List Nat) (w : World) (h : Sl w B A n c xs) (hB : B <= w.heap.size) :
 Calls Tryz.prog 170 #[.slice A n c] w fun e w' => e = .returned (.slice (some ⟨w.heap.size, 0, none⟩) n n) /\ Row w' w.heap.size xs /\ Below w.heap.size w w' := by
 have hr := h.reach
 have hcr := h.capr
 have hcap := h.cap
 have hl := Lib.hid h.len
 have hmk := make_any (n : Int) n rfl (by omega)
 have hrow := Lib.hid (Row.made w n)
 go_enter Tryz.func170, Tryz.ntmps170
 go_wp2_with (with_reducible refine copy_us rfl _ _ rfl _ _ _ _ _ _ B _ xs _ rfl rfl hrow.out (h.alloc hB _) (by rw [List.length_replicate]; omega) ?_; intro w' hw hb)
 go_ret
 have e : over (List.replicate n 0) 0 (xs.take n) = xs := by
  rw [List.take_of_length_le (by rw [hl.out]; omega), over_all (by rw [hl.out, List.length_replicate])]
 rw [e] at hw
 exact ⟨rfl, hw, ((Below.refl _ _).alloc (Nat.le_refl _) _).trans hb⟩
end Go.Proofs.YtmncfbfepdbioaaGreatDoor
namespace Go.Proofs.YtmncfbfepdbioaaGreatDoor
open Go.RowKit
theorem sl_lim_past {w : World} {B n c k : Nat} {A : Option Addr} {xs : List Nat} (h : Sl w B A n c xs) (hk : n <= k) : lim xs k = 0 := lim_past (by rw [h.len]; exact hk)
theorem sl_val {w : World} {B n c k : Nat} {A : Option Addr} {xs : List Nat} (h : Sl w B A n c xs) (hk : n <= k) : val (xs.take k) = val xs := by rw [List.take_of_length_le (by rw [h.len]; exact hk)]
theorem add_rel {w wr : World} {zs zr ys : List Nat} {g off k cy : Nat} (hlt : off + k < zr.length) (Hrow : Hid (Row wr g zr)) (Hok : Hid (Ok zr)) (Hsame : Hid (Same zs zr off (off + k)))
 (Hval : Hid (wv zr off k + 4294967296 ^ k * cy = wv zs off k + val (ys.take k))) (Hgr : Hid (w.grownBy wr (some g))) (s : Nat) (hs : s = cy + lim ys k + lim zr (off + k)) :
 Hid (Row (wr.setCell ⟨g, off + k, none⟩ (.int .u32 ((s % 4294967296 : Nat) : Int))) g (zr.set (off + k) (s % 4294967296))) /\ Hid (Ok (zr.set (off + k) (s % 4294967296))) ∧
 Hid (Same zs (zr.set (off + k) (s % 4294967296)) off (off + (k + 1))) ∧
 Hid (wv (zr.set (off + k) (s % 4294967296)) off (k + 1) + 4294967296 ^ (k + 1) * (s / 4294967296) = wv zs off (k + 1) + val (ys.take (k + 1))) ∧
 Hid (w.grownBy (wr.setCell ⟨g, off + k, none⟩ (.int .u32 ((s % 4294967296 : Nat) : Int))) (some g)) := by
 refine ⟨Hrow.out.set _ _, Hok.out.set _ (by omega), Hsame.out.snoc _, ?_, grown_set Hgr.out _ _⟩
 rw [Hid, wv_set_end hlt, wv_succ, val_take_succ, Nat.pow_succ]
 have e := Hsame.out.2 (off + k) (.inr (Nat.le_refl _))
 exact add_step (by rw [hs, e]; omega) Hval.out
theorem addTo_any (g off n c B m d : Nat) (A : Option Addr) (zs ys : List Nat) (w : World) (hr : Row w g zs) (hoff : off + n <= zs.length) (hz : Ok zs) (hl : off + n <= 35184372088832)
 (h : Sl w B A m d ys) (hB : B <= g) (hmn : m <= n) :
 Calls Tryz.prog 169 #[.slice (some ⟨g, off, none⟩) n c, .slice A m d] w fun e w' => e = .returned (.tuple #[]) /\ ∃ zs' cy, cy <= 1 /\ Row w' g zs' /\ Ok zs' /\ Same zs zs' off (off + n) ∧
  wv zs' off n + 4294967296 ^ n * cy = wv zs off n + val ys /\ w.grownBy w' (some g) := by
 go_enter Tryz.func169, Tryz.ntmps169
 go_wp2
 go_loopw [4, 8] (fun cv iv wr => ∃ (k cy : Nat) (zr : List Nat), k <= n /\ iv = .int .i64 k /\ cv = .int .u64 cy /\ cy <= 1 /\ Hid (Row wr g zr) /\ Hid (Ok zr) /\ Hid (Same zs zr off (off + k)) ∧
  Hid (wv zr off k + 4294967296 ^ k * cy = wv zs off k + val (ys.take k)) /\ Hid (w.grownBy wr (some g))) (fun _ iv _ => n - (intOf iv).toNat)
 case atStart => exact ⟨0, 0, zs, by omega, rfl, rfl, by omega, hr, hz, Same.refl _ _ _, rfl, World.grownBy.refl w _⟩
 case round =>
  obtain ⟨k, cy, zr, hk, rfl, rfl, hcy, Hrow, Hok, Hsame, Hval, Hgr⟩ := hrel
  by_cases hkn : k < n
  . have hlt : off + k < zr.length := by have := Hsame.out.1; omega
    have hc1 := Hrow.out.cell hlt
    have hf1 := Hrow.out.free (off + k)
    have ht := Hok.out.lim (off + k)
    by_cases hkm : k < m
    . have R := Lib.hid (add_rel hlt Hrow Hok Hsame Hval Hgr _ rfl)
      have hy := h.ok.lim k
      obtain ⟨ad, rfl, hadb, hc2⟩ := (h.grown Hgr.out (by have := hr.lt; omega) hB).cell hkm
      go_wp2
      rw [show Value.int .u32 ((↑cy + ↑(lim ys k) + ↑(lim zr (off + k))) % 4294967296) = Value.int .u32 (((cy + lim ys k + lim zr (off + k)) % 4294967296 : Nat) : Int) by go_num]
      exact ⟨⟨k + 1, (cy + lim ys k + lim zr (off + k)) / 4294967296, _, by omega, by go_num, by go_num, by omega, R.out⟩, by simp [intOf]; omega⟩
    . by_cases hcz : cy = 0
      . subst hcz
        have e0 := sl_val h (k := k) (by omega)
        have E0 := Lib.hid e0
        clear e0
        go_wp2
        refine bodyPost_ret (results_none rfl _ _ _) rfl ⟨rfl, zr, 0, by omega, Hrow.out, Hok.out, Hsame.out.mono (Nat.le_refl _) (by omega), ?_, Hgr.out⟩
        have e := Hval.out
        rw [E0.out] at e
        have a := wv_add zr off k (n - k)
        have b := wv_add zs off k (n - k)
        rw [Nat.add_sub_cancel' hk] at a b
        rw [a, b, Hsame.out.wv_past (.inr (Nat.le_refl _))]
        omega
      . obtain rfl : cy = 1 := by omega
        have hy := Lib.hid (sl_lim_past h (k := k) (by omega))
        have R := Lib.hid (add_rel hlt Hrow Hok Hsame Hval Hgr (1 + lim zr (off + k)) (by rw [hy.out]))
        go_wp2
        rw [show Value.int .u32 ((1 + ↑(lim zr (off + k))) % 4294967296) = Value.int .u32 (((1 + lim zr (off + k)) % 4294967296 : Nat) : Int) by go_num]
        exact ⟨⟨k + 1, (1 + lim zr (off + k)) / 4294967296, _, by omega, by go_num, by go_num, by omega, R.out⟩, by simp [intOf]; omega⟩
  . have E0 := Lib.hid (sl_val h (k := k) (by omega))
    obtain rfl : k = n := by omega
    go_wp2
    go_end0
    refine ⟨rfl, zr, cy, hcy, Hrow.out, Hok.out, Hsame.out, ?_, Hgr.out⟩
    rw [<- E0.out]; exact Hval.out
theorem wrap64_neg (x : Int) (h1 : -18446744073709551616 <= x) (h2 : x < 0) : IntKind.u64.wrap x = x + 18446744073709551616 := by
 simp only [IntKind.wrap_u64]; omega
theorem sub_rel {w wr : World} {zs zr ys : List Nat} {g off k cy : Nat} (hlt : off + k < zr.length) (Hrow : Hid (Row wr g zr)) (Hok : Hid (Ok zr)) (Hsame : Hid (Same zs zr off (off + k)))
 (Hval : Hid (wv zr off k + val (ys.take k) = wv zs off k + 4294967296 ^ k * cy)) (Hgr : Hid (w.grownBy wr (some g))) (v c' : Nat) (hv : v < 4294967296) (hs : v + cy + lim ys k = lim zr (off + k) + 4294967296 * c') :
 Hid (Row (wr.setCell ⟨g, off + k, none⟩ (.int .u32 (v : Int))) g (zr.set (off + k) v)) /\ Hid (Ok (zr.set (off + k) v)) ∧
 Hid (Same zs (zr.set (off + k) v) off (off + (k + 1))) ∧
 Hid (wv (zr.set (off + k) v) off (k + 1) + val (ys.take (k + 1)) = wv zs off (k + 1) + 4294967296 ^ (k + 1) * c') ∧
 Hid (w.grownBy (wr.setCell ⟨g, off + k, none⟩ (.int .u32 (v : Int))) (some g)) := by
 refine ⟨Hrow.out.set _ _, Hok.out.set _ hv, Hsame.out.snoc _, ?_, grown_set Hgr.out _ _⟩
 rw [Hid, wv_set_end hlt, wv_succ, val_take_succ, Nat.pow_succ]
 have e := Hsame.out.2 (off + k) (.inr (Nat.le_refl _))
 exact sub_step (by rw [hs, e]) Hval.out
theorem subFrom_any (g off n c B m d : Nat) (A : Option Addr) (zs ys : List Nat) (w : World) (hr : Row w g zs) (hoff : off + n <= zs.length) (hz : Ok zs) (hl : off + n <= 35184372088832)
 (h : Sl w B A m d ys) (hB : B <= g) (hmn : m <= n) (hle : val ys <= wv zs off n) :
 Calls Tryz.prog 171 #[.slice (some ⟨g, off, none⟩) n c, .slice A m d] w fun e w' => e = .returned (.tuple #[]) /\ ∃ zs', Row w' g zs' /\ Ok zs' /\ Same zs zs' off (off + n) ∧
  wv zs' off n + val ys = wv zs off n /\ w.grownBy w' (some g) := by
 have Hle := Lib.hid hle
 clear hle
 go_enter Tryz.func171, Tryz.ntmps171
 go_wp2
 go_loopw [4, 9] (fun cv iv wr => ∃ (k cy : Nat) (zr : List Nat), k <= n /\ iv = .int .i64 k /\ cv = .int .u64 cy /\ cy <= 1 /\ Hid (Row wr g zr) /\ Hid (Ok zr) /\ Hid (Same zs zr off (off + k)) ∧
  Hid (wv zr off k + val (ys.take k) = wv zs off k + 4294967296 ^ k * cy) /\ Hid (w.grownBy wr (some g))) (fun _ iv _ => n - (intOf iv).toNat)
 case atStart => exact ⟨0, 0, zs, by omega, rfl, rfl, by omega, hr, hz, Same.refl _ _ _, rfl, World.grownBy.refl w _⟩
 case round =>
  obtain ⟨k, cy, zr, hk, rfl, rfl, hcy, Hrow, Hok, Hsame, Hval, Hgr⟩ := hrel
  by_cases hkn : k < n
  . have hlt : off + k < zr.length := by have := Hsame.out.1; omega
    have hc1 := Hrow.out.cell hlt
    have hf1 := Hrow.out.free (off + k)
    have ht := Hok.out.lim (off + k)
    by_cases hkm : k < m
    . have hy := h.ok.lim k
      by_cases hb : cy + lim ys k <= lim zr (off + k)
      . have R := Lib.hid (sub_rel hlt Hrow Hok Hsame Hval Hgr (lim zr (off + k) - (cy + lim ys k)) 0 (by omega) (by omega))
        obtain ⟨ad, rfl, hadb, hc2⟩ := (h.grown Hgr.out (by have := hr.lt; omega) hB).cell hkm
        go_wp2
        rw [show (↑(lim zr (off + k)) - (↑cy + ↑(lim ys k)) : Int) = ((lim zr (off + k) - (cy + lim ys k) : Nat) : Int) by omega]
        exact ⟨⟨k + 1, 0, _, by omega, by go_num, by go_num, by omega, R.out⟩, by simp [intOf]; omega⟩
      . have R := Lib.hid (sub_rel hlt Hrow Hok Hsame Hval Hgr (lim zr (off + k) + 4294967296 - (cy + lim ys k)) 1 (by omega) (by omega))
        obtain ⟨ad, rfl, hadb, hc2⟩ := (h.grown Hgr.out (by have := hr.lt; omega) hB).cell hkm
        go_wp2
        rw [wrap64_neg (↑(lim zr (off + k)) - (↑cy + ↑(lim ys k))) (by omega) (by omega),
         show ((↑(lim zr (off + k)) - (↑cy + ↑(lim ys k)) + 18446744073709551616) % 4294967296 : Int) = ((lim zr (off + k) + 4294967296 - (cy + lim ys k) : Nat) : Int) by omega]
        exact ⟨⟨k + 1, 1, _, by omega, by go_num, by go_num, by omega, R.out⟩, by simp [intOf]; omega⟩
    . by_cases hcz : cy = 0
      . subst hcz
        have e0 := sl_val h (k := k) (by omega)
        have E0 := Lib.hid e0
        clear e0
        go_wp2
        refine bodyPost_ret (results_none rfl _ _ _) rfl ⟨rfl, zr, Hrow.out, Hok.out, Hsame.out.mono (Nat.le_refl _) (by omega), ?_, Hgr.out⟩
        have e := Hval.out
        rw [E0.out] at e
        have a := wv_add zr off k (n - k)
        have b := wv_add zs off k (n - k)
        rw [Nat.add_sub_cancel' hk] at a b
        rw [a, b, Hsame.out.wv_past (.inr (Nat.le_refl _))]
        omega
      . obtain rfl : cy = 1 := by omega
        have hy := Lib.hid (sl_lim_past h (k := k) (by omega))
        by_cases hb : 1 <= lim zr (off + k)
        . have R := Lib.hid (sub_rel hlt Hrow Hok Hsame Hval Hgr (lim zr (off + k) - 1) 0 (by omega) (by rw [hy.out]; omega))
          go_wp2
          rw [show (↑(lim zr (off + k)) - 1 : Int) = ((lim zr (off + k) - 1 : Nat) : Int) by omega]
          exact ⟨⟨k + 1, 0, _, by omega, by go_num, by go_num, by omega, R.out⟩, by simp [intOf]; omega⟩
        . have R := Lib.hid (sub_rel hlt Hrow Hok Hsame Hval Hgr 4294967295 1 (by omega) (by rw [hy.out]; omega))
          go_wp2
          rw [wrap64_neg (↑(lim zr (off + k)) - 1) (by omega) (by omega),
           show ((↑(lim zr (off + k)) - 1 + 18446744073709551616) % 4294967296 : Int) = ((4294967295 : Nat) : Int) by omega]
          exact ⟨⟨k + 1, 1, _, by omega, by go_num, by go_num, by omega, R.out⟩, by simp [intOf]; omega⟩
  . have E0 := Lib.hid (sl_val h (k := k) (by omega))
    obtain rfl : k = n := by omega
    go_wp2
    go_end0
    refine ⟨rfl, zr, Hrow.out, Hok.out, Hsame.out, ?_, Hgr.out⟩
    have a := Hval.out
    rw [E0.out] at a
    have b := wv_lt Hok.out off k
    have c := Hle.out
    rcases Nat.lt_or_ge cy 1 with h1 | h1
    . obtain rfl : cy = 0 := by omega
      omega
    . obtain rfl : cy = 1 := by omega
      omega
end Go.Proofs.YtmncfbfepdbioaaGreatDoor
namespace Go.Proofs.YtmncfbfepdbioaaGreatDoor
open Go.RowKit
theorem cmpMag_any (A A' : Option Addr) (n c n' c' B B' : Nat) (xs ys : List Nat) (w : World) (h : Sl w B A n c xs) (h' : Sl w B' A' n' c' ys) (hx : Nz xs) (hy : Nz ys) :
 Calls Tryz.prog 139 #[.slice A n c, .slice A' n' c'] w fun e w' => e = .returned (.int .i64 (cmpv (val xs) (val ys))) /\ ∃ k, w' = w.drewN k := by
 have hr := h.reach
 have hcr := h.capr
 have hc := h.cap
 have hr' := h'.reach
 have hcr' := h'.capr
 have hc' := h'.cap
 by_cases hlen : n = n'
 . subst hlen
   have hlx := h.len
   have hly := h'.len
   have Hlx := Lib.hid hlx
   have Hly := Lib.hid hly
   clear hlx hly
   have hb : ((n : Int) != (n : Int)) = false := by simp
   go_enter Tryz.func139, Tryz.ntmps139
   go_wp2
   go_loopw [20] (fun iv wr => ∃ k q : Nat, k <= n /\ iv = .int .i64 k /\ wr = w.drewN q /\ Hid (val (xs.drop (n - k)) = val (ys.drop (n - k)))) (fun iv _ => n - (intOf iv).toNat)
   case atStart => exact ⟨0, 0, by omega, rfl, rfl, by rw [Hid, List.drop_of_length_le (by rw [Hlx.out]; omega), List.drop_of_length_le (by rw [Hly.out]; omega)]⟩
   case round =>
    obtain ⟨k, q, hk, rfl, rfl, Hd⟩ := hrel
    by_cases hkn : k < n
    . obtain ⟨j, hj⟩ : ∃ j, j = n - 1 - k := ⟨_, rfl⟩
      have Hj := Lib.hid (show j + 1 = n - k by omega)
      obtain ⟨ad, rfl, _, hc1⟩ := h.cell (k := j) (by omega)
      obtain ⟨ad', rfl, _, hc2⟩ := h'.cell (k := j) (by omega)
      have i1 : (0 : Int) <= (n : Int) - 1 - (k : Int) := by omega
      have i2 : (n : Int) - 1 - (k : Int) < (n : Int) := by omega
      have i3 : ((n : Int) - 1 - (k : Int)).toNat = j := by omega
      have hdj : val (xs.drop (j + 1)) = val (ys.drop (j + 1)) := by rw [Hj.out]; exact Hd.out
      have Hdj := Lib.hid hdj
      have HJ := Lib.hid hj
      clear hj hdj
      go_wp2_with fail
      go_quiet (fail)
      go_wp2
      . have ht : lim xs j < lim ys j := by assumption
        rw [cmpv_lt (lt_of_limb h.ok (by rw [Hlx.out]; omega) (by rw [Hly.out]; omega) Hdj.out ht)]
        go_ret
        exact ⟨rfl, _, rfl⟩
      . have ht : lim ys j < lim xs j := by assumption
        rw [cmpv_gt (lt_of_limb h'.ok (by rw [Hly.out]; omega) (by rw [Hlx.out]; omega) Hdj.out.symm ht)]
        go_ret
        exact ⟨rfl, _, rfl⟩
      . have h1 : ¬lim xs j < lim ys j := by assumption
        have h2 : ¬lim ys j < lim xs j := by assumption
        have e := drop_eq_step (by rw [Hlx.out]; omega) (by rw [Hly.out]; omega) Hdj.out (show lim xs j = lim ys j by omega)
        exact ⟨⟨k + 1, _, by omega, by go_num, rfl, by rw [Hid, show n - (k + 1) = j from by have := HJ.out; omega]; exact e⟩, by simp [intOf]; omega⟩
    . have e : val xs = val ys := by
       have := Hd.out
       rw [show n - k = 0 by omega] at this
       exact this
      have Hf := Lib.hid (show cmpv (val xs) (val ys) = 0 by rw [e]; exact cmpv_eq _)
      clear e
      go_wp2
      rw [Hf.out]
      go_ret
      exact ⟨rfl, _, rfl⟩
 . by_cases hlt : n < n'
   . have Hf := Lib.hid (cmpv_lt (val_lt_of_length h.ok hy (by rw [h.len, h'.len]; exact hlt)))
     have hb : ((n : Int) != (n' : Int)) = true := by rw [bne_iff_ne]; omega
     have ht : (n : Int) < (n' : Int) := by omega
     go_enter Tryz.func139, Tryz.ntmps139
     go_wp2
     rw [Hf.out]
     go_ret
     exact ⟨rfl, 0, rfl⟩
   . have Hf := Lib.hid (cmpv_gt (val_lt_of_length h'.ok hx (by rw [h.len, h'.len]; omega)))
     have hb : ((n : Int) != (n' : Int)) = true := by rw [bne_iff_ne]; omega
     have ht : (n' : Int) <= (n : Int) := by omega
     go_enter Tryz.func139, Tryz.ntmps139
     go_wp2
     rw [Hf.out]
     go_ret
     exact ⟨rfl, 0, rfl⟩
end Go.Proofs.YtmncfbfepdbioaaGreatDoor
namespace Go.Proofs.YtmncfbfepdbioaaGreatDoor
open Go.RowKit
def vld (neg : Bool) (xs : List Nat) : Bool := if xs.length = 0 then !neg else decide (xs.length <= 128) && !(lim xs (xs.length - 1) == 0)
theorem ret_bool {a b : Bool} (h : a = b) : Ending.returned (.bool a) = .returned (.bool b) := by rw [h]
theorem ret_int {k : IntKind} {a b : Int} (h : a = b) : Ending.returned (.int k a) = .returned (.int k b) := by rw [h]
theorem beq_cast0 (a : Nat) : ((a : Int) == 0) = (a == 0) := by
 rw [Bool.eq_iff_iff]; simp
theorem valid_any (neg : Bool) (A : Option Addr) (n c B : Nat) (xs : List Nat) (w : World) (h : Sl w B A n c xs) (hB : B <= w.heap.size) :
 Calls Tryz.prog 96 #[.agg #[.bool neg, .slice A n c]] w fun e w' => e = .returned (.bool (vld neg xs)) /\ Below w.heap.size w w' := by
 have hr := h.reach
 have hcr := h.capr
 have hc := h.cap
 have hl := h.len
 have hb := (Below.refl w.heap.size w).alloc (Nat.le_refl _) (.cells #[.bool neg, .slice A n c] 25)
 unfold vld
 rw [hl]
 by_cases h0 : n = 0
 . subst h0
   rw [if_pos rfl]
   clear hl
   go_enter Tryz.func96, Tryz.ntmps96
   go_wp2
   go_ret
   exact ⟨rfl, hb⟩
 . rw [if_neg h0]
   obtain ⟨ad, rfl, hadb, hc1⟩ := (h.alloc hB (.cells #[.bool neg, .slice A n c] 25)).cell (k := n - 1) (by omega)
   have i1 : (0 : Int) <= (n : Int) - 1 := by omega
   have i2 : (n : Int) - 1 < (n : Int) := by omega
   have i3 : ((n : Int) - 1).toNat = n - 1 := by omega
   have i4 : ((n : Int) == 0) = false := by rw [beq_eq_false_iff_ne]; omega
   clear hl
   by_cases h1 : n <= 128
   . have d1 : decide ((n : Int) <= 128) = true := by simp; omega
     go_enter Tryz.func96, Tryz.ntmps96
     go_wp2
     go_ret
     refine ⟨ret_bool ?_, hb⟩
     rw [decide_eq_true h1, Bool.true_and, bne, beq_cast0]
   . have d1 : decide ((n : Int) <= 128) = false := by simp; omega
     go_enter Tryz.func96, Tryz.ntmps96
     go_wp2
     go_ret
     refine ⟨ret_bool ?_, hb⟩
     rw [decide_eq_false h1, Bool.false_and]
end Go.Proofs.YtmncfbfepdbioaaGreatDoor
namespace Go.Proofs.YtmncfbfepdbioaaGreatDoor
open Go.RowKit
theorem add_small {a b p : Nat} (ha : a < p) (hb : b < p) : a + b < p * 4294967296 := by omega
theorem no_carry {v s p cy : Nat} (h : v + p * cy = s) (d : s < p) : v = s := by
 rcases cy with _ | cy
 . simpa using h
 . rw [Nat.mul_succ] at h; omega
theorem addMag_end {w w1 w2 : World} {xs ys zs' : List Nat} {n n' cy : Nat} (hx : Ok xs) (hy : Ok ys) (lx : xs.length = n) (ly : ys.length = n') (hle : n' <= n) (hn : n <= 1000000)
 (hb1 : Below w.heap.size w w1) (hz1 : w.heap.size < w1.heap.size) (hr2 : Row w2 w.heap.size zs') (hok : Ok zs') (hs : Same (over (List.replicate (n + 1) 0) 0 xs) zs' 0 (0 + (n + 1)))
 (hv : wv zs' 0 (n + 1) + 4294967296 ^ (n + 1) * cy = wv (over (List.replicate (n + 1) 0) 0 xs) 0 (n + 1) + val ys) (hg : w1.grownBy w2 (some w.heap.size)) :
 Sl w2 w2.heap.size (some ⟨w.heap.size, 0, none⟩) (n + 1) (n + 1) zs' /\ val zs' = val xs + val ys /\ Below w.heap.size w w2 := by
 have hl : zs'.length = n + 1 := by rw [hs.1, over_length (by rw [List.length_replicate]; omega), List.length_replicate]
 have h2 : w.heap.size < w2.heap.size := hr2.lt
 refine ⟨?_, ?_, below_grown hb1 hg (Nat.le_refl _) (by omega)⟩
 . have := hr2.sl (B := w2.heap.size) (n := n + 1) (c := n + 1) h2 0 (by omega) (Nat.le_refl _) (by omega) hok
   rwa [List.drop_zero, List.take_of_length_le (by omega)] at this
 . rw [wv_over_zeros (by omega), wv_all zs' (by omega)] at hv
   have a := val_lt hx
   have b := val_lt hy
   have c : 4294967296 ^ ys.length <= 4294967296 ^ n := Nat.pow_le_pow_right (by decide) (by omega)
   rw [lx] at a
   have d := add_small a (Nat.lt_of_lt_of_le b c)
   rw [<- Nat.pow_succ] at d
   exact no_carry hv d
theorem addMag_any (A A' : Option Addr) (n c n' c' : Nat) (xs ys : List Nat) (w : World) (h : Sl w w.heap.size A n c xs) (h' : Sl w w.heap.size A' n' c' ys) (hn : n <= 1000000) (hn' : n' <= 1000000) :
 Calls Tryz.prog 138 #[.slice A n c, .slice A' n' c'] w (RetNum (val xs + val ys) w) := by
 have Hl := Lib.hid h.len
 have Hl' := Lib.hid h'.len
 have hb0 := Below.refl w.heap.size w
 by_cases hlt : n < n'
 . have ht : (n : Int) < (n' : Int) := by omega
   have hmk := make_any ((n' : Int) + 1) (n' + 1) (by omega) (by omega)
   have Hrow := Lib.hid (Row.made w (n' + 1))
   have e : ys.take (n' + 1) = ys := List.take_of_length_le (by rw [Hl'.out]; omega)
   have E := Lib.hid e
   clear e
   go_enter Tryz.func138, Tryz.ntmps138
   go_wp2_with (with_reducible refine copy_us rfl _ _ rfl _ _ _ _ _ _ w.heap.size _ ys _ rfl rfl Hrow.out (h'.alloc (Nat.le_refl _) _) (by rw [List.length_replicate]; omega) ?_; intro w1 hw hb)
   rw [E.out] at hw
   have hz : w.heap.size < w1.heap.size := hw.lt
   have hb1 := (hb0.alloc (Nat.le_refl _) (.cells (zrow (n' + 1)) 44)).trans hb
   go_wp2_with fail
   refine (addTo_any w.heap.size 0 (n' + 1) (n' + 1) w.heap.size n c A _ xs w1 hw (by rw [over_length (by rw [List.length_replicate, Hl'.out]; omega), List.length_replicate]; omega) (Ok.over (ok_zeros _) h'.ok 0) (by omega) (h.below hb1) (Nat.le_refl _) (by omega)).mono ?_
   rintro e w2 ⟨rfl, zs', cy, hcy, hr2, hok, hs, hv, hg⟩
   have R := addMag_end h'.ok h.ok Hl'.out Hl.out (by omega) hn' hb1 hz hr2 hok hs hv hg
   have hsl := R.1
   have HR := Lib.hid R.2
   clear hs hv R hw hr2
   go_wp2_with fail
   refine (trim_any _ _ _ _ zs' w2 hsl).mono ?_
   rintro e w3 ⟨⟨k, hk, rfl, hnz, hv⟩, rfl⟩
   go_wp2
   go_ret
   exact ⟨_, _, _, _, rfl, hsl.to hk, hnz, by rw [hv, HR.out.1, Nat.add_comm], HR.out.2⟩
 . have ht : (n' : Int) <= (n : Int) := by omega
   have hmk := make_any ((n : Int) + 1) (n + 1) (by omega) (by omega)
   have Hrow := Lib.hid (Row.made w (n + 1))
   have e : xs.take (n + 1) = xs := List.take_of_length_le (by rw [Hl.out]; omega)
   have E := Lib.hid e
   clear e
   go_enter Tryz.func138, Tryz.ntmps138
   go_wp2_with (with_reducible refine copy_us rfl _ _ rfl _ _ _ _ _ _ w.heap.size _ xs _ rfl rfl Hrow.out (h.alloc (Nat.le_refl _) _) (by rw [List.length_replicate]; omega) ?_; intro w1 hw hb)
   rw [E.out] at hw
   have hz : w.heap.size < w1.heap.size := hw.lt
   have hb1 := (hb0.alloc (Nat.le_refl _) (.cells (zrow (n + 1)) 44)).trans hb
   go_wp2_with fail
   refine (addTo_any w.heap.size 0 (n + 1) (n + 1) w.heap.size n' c' A' _ ys w1 hw (by rw [over_length (by rw [List.length_replicate, Hl.out]; omega), List.length_replicate]; omega) (Ok.over (ok_zeros _) h.ok 0) (by omega) (h'.below hb1) (Nat.le_refl _) (by omega)).mono ?_
   rintro e w2 ⟨rfl, zs', cy, hcy, hr2, hok, hs, hv, hg⟩
   have R := addMag_end h.ok h'.ok Hl.out Hl'.out (by omega) hn hb1 hz hr2 hok hs hv hg
   have hsl := R.1
   have HR := Lib.hid R.2
   clear hs hv R hw hr2
   go_wp2_with fail
   refine (trim_any _ _ _ _ zs' w2 hsl).mono ?_
   rintro e w3 ⟨⟨k, hk, rfl, hnz, hv⟩, rfl⟩
   go_wp2
   go_ret
   exact ⟨_, _, _, _, rfl, hsl.to hk, hnz, by rw [hv, HR.out.1], HR.out.2⟩
theorem subMag_any (A A' : Option Addr) (n c n' c' : Nat) (xs ys : List Nat) (w : World) (h : Sl w w.heap.size A n c xs) (h' : Sl w w.heap.size A' n' c' ys) (hy : Nz ys) (hle : val ys <= val xs) :
 Calls Tryz.prog 140 #[.slice A n c, .slice A' n' c'] w (RetNum (val xs - val ys) w) := by
 have Hl := Lib.hid h.len
 have hn : n' <= n := by
  rcases Nat.lt_or_ge n n' with hlt | hge
  . have := val_lt_of_length h.ok hy (by rw [h.len, h'.len]; exact hlt)
    omega
  . exact hge
 have Hle := Lib.hid hle
 clear hle
 have hcap := h.cap
 have hreach := h.reach
 have hcr := h.capr
 go_enter Tryz.func140, Tryz.ntmps140
 go_wp2_with fail
 refine (clone_any A n c w.heap.size xs w h (Nat.le_refl _)).mono ?_
 rintro e w1 ⟨rfl, hrow, hb1⟩
 have hz := hrow.lt
 go_wp2_with fail
 refine (subFrom_any w.heap.size 0 n n w.heap.size n' c' A' xs ys w1 hrow (by rw [Hl.out]; omega) h.ok (by omega) (h'.below hb1) (Nat.le_refl _) hn (by rw [wv_all xs (by rw [Hl.out]; omega)]; exact Hle.out)).mono ?_
 rintro e w2 ⟨rfl, zs', hr2, hok, hs, hv, hg⟩
 have Hr2 := Lib.hid hr2
 have Hs := Lib.hid hs
 have Hv := Lib.hid hv
 clear hr2 hs hv
 have hl : zs'.length = n := by rw [Hs.out.1, Hl.out]
 have HL := Lib.hid hl
 clear hl
 have hz2 := Hr2.out.lt
 have hsl := Hr2.out.sl (B := w2.heap.size) (n := n) (c := n) hz2 0 (by rw [HL.out]; omega) (Nat.le_refl _) (by omega) hok
 rw [List.drop_zero, List.take_of_length_le (by rw [HL.out]; omega)] at hsl
 go_wp2_with fail
 refine (trim_any _ _ _ _ zs' w2 hsl).mono ?_
 rintro e w3 ⟨⟨k, hk, rfl, hnz, hv⟩, rfl⟩
 have HV := Lib.hid hv
 clear hv
 go_wp2
 go_ret
 refine ⟨_, _, _, _, rfl, hsl.to hk, hnz, ?_, below_grown hb1 hg (Nat.le_refl _) (by omega)⟩
 have a := Hv.out
 rw [wv_all zs' (by rw [HL.out]; omega), wv_all xs (by rw [Hl.out]; omega)] at a
 rw [HV.out]; omega
theorem ret_neg {a b : Bool} {v : Value} (h : a = b) : Ending.returned (.agg #[.bool a, v]) = .returned (.agg #[.bool b, v]) := by rw [h]
theorem sg_false (v : Nat) : sg false v = (v : Int) := rfl
theorem sg_true (v : Nat) : sg true v = -(v : Int) := rfl
theorem signed_any (neg : Bool) (A : Option Addr) (n c : Nat) (xs : List Nat) (w : World) (h : Sl w w.heap.size A n c xs) (hx : Nz xs) :
 Calls Tryz.prog 136 #[.bool neg, .slice A n c] w (RetI (sg neg (val xs)) w) := by
 have hcap := h.cap
 have hreach := h.reach
 have hcr := h.capr
 have hb : ∀ b : Bool, Below w.heap.size w (w.alloc (.cells #[.bool b, .slice A n c] 25)) := fun b => (Below.refl w.heap.size w).alloc (Nat.le_refl _) _
 have hs : ∀ b : Bool, Sl (w.alloc (.cells #[.bool b, .slice A n c] 25)) (w.alloc (.cells #[.bool b, .slice A n c] 25)).heap.size A n c xs := fun b => h.on (hb b)
 have Hb := Lib.hid hb
 have Hs := Lib.hid hs
 clear hb hs
 have ha := Lib.hid (sg_abs neg (val xs))
 have hl := h.len
 cases neg with
 | false =>
   have Hd := Lib.hid (show false = decide (sg false (val xs) < 0) by rw [sg_false]; simp)
   clear hl
   go_enter Tryz.func136, Tryz.ntmps136
   go_wp2
   exact bodyPost_ret (v := .agg #[.bool false, .slice A n c]) (by simp [results, Tryz.results136, go_sem]) rfl ⟨A, n, c, xs, ret_neg Hd.out, Hs.out _, hx, ha.out.symm, Hb.out _⟩
 | true =>
   by_cases h0 : n = 0
   . subst h0
     have e : xs = [] := List.eq_nil_of_length_eq_zero hl
     subst e
     have Hd := Lib.hid (show false = decide (sg true (val []) < 0) by rw [sg_true]; simp [val])
     clear hl
     go_enter Tryz.func136, Tryz.ntmps136
     go_wp2
     exact bodyPost_ret (v := .agg #[.bool false, .slice A 0 c]) (by simp [results, Tryz.results136, go_sem]) rfl ⟨A, 0, c, [], ret_neg Hd.out, Hs.out _, hx, ha.out.symm, Hb.out _⟩
   . have hp : 0 < val xs := val_pos hx (by rintro rfl; exact h0 hl.symm)
     have Hd := Lib.hid (show true = decide (sg true (val xs) < 0) by rw [sg_true]; simp; omega)
     clear hl hp
     have hp : 0 < n := by omega
     go_enter Tryz.func136, Tryz.ntmps136
     go_wp2
     exact bodyPost_ret (v := .agg #[.bool true, .slice A n c]) (by simp [results, Tryz.results136, go_sem]) rfl ⟨A, n, c, xs, ret_neg Hd.out, Hs.out _, hx, ha.out.symm, Hb.out _⟩
theorem limited_any (neg : Bool) (A : Option Addr) (n c : Nat) (xs : List Nat) (w : World) (h : Sl w w.heap.size A n c xs) (hx : Nz xs) :
 Calls Tryz.prog 97 #[.bool neg, .slice A n c] w (RetIE (fitZ (sg neg (val xs))) (fitE (sg neg (val xs))) w) := by
 have hcap := h.cap
 have hreach := h.reach
 have hcr := h.capr
 have Ha := Lib.hid (sg_abs neg (val xs))
 have Hb := Lib.hid ((Below.refl w.heap.size w).alloc (Nat.le_refl _) (.cells #[.bool false, .slice none 0 0] 25))
 have hl := h.len
 by_cases h1 : n <= 128
 . have hf := fit_yes (z := sg neg (val xs)) (by rw [sg_abs, big_iff h.ok hx]; omega)
   rw [hf.1, hf.2]
   have h2 : (n : Int) <= 128 := by omega
   clear hl hf
   go_enter Tryz.func97, Tryz.ntmps97
   go_wp2_with fail
   refine (signed_any neg A n c xs _ ?_ hx).mono ?_
   . exact (h.on Hb.out)
   rintro e w1 ⟨A1, n1, c1, xs1, rfl, hs1, hx1, hv1, hb1⟩
   have hbx := (Bx.new w false none 0 0).below hb1 (by simp)
   have hc0 := hbx.c0
   have hc1 := hbx.c1
   have hf0 := hbx.f 0
   have hf1 := hbx.f 1
   have Hbx := Lib.hid hbx
   have Hv := Lib.hid hv1
   clear hv1 hbx
   go_wp2
   exact bodyPost_ret (v := .tuple #[.agg #[.bool (decide (sg neg (val xs) < 0)), .slice A1 n1 c1], .int .i64 0]) (by simp [results, Tryz.results97, go_sem, hc0, hc1]) rfl
    ⟨A1, n1, c1, xs1, rfl, hs1.ret Hbx.out _ _, hx1, Hv.out, below_ret (below_chain Hb.out (by simp) hb1) (Nat.le_refl _) _ _⟩
 . have hf := fit_no (z := sg neg (val xs)) (by rw [sg_abs, big_iff h.ok hx]; omega)
   rw [hf.1, hf.2]
   have h2 : 128 < (n : Int) := by omega
   clear hl hf
   go_enter Tryz.func97, Tryz.ntmps97
   go_wp2
   exact bodyPost_ret (v := .tuple #[.agg #[.bool false, .slice none 0 0], .int .i64 2]) (by simp [results, Tryz.results97, go_sem]) rfl
    ⟨none, 0, 0, [], rfl, Sl.nil _ _, Nz.nil, rfl, Hb.out⟩
end Go.Proofs.YtmncfbfepdbioaaGreatDoor
namespace Go.Proofs.YtmncfbfepdbioaaGreatDoor
open Go.RowKit
theorem Bx.cs {w : World} {r : Nat} {neg : Bool} {A : Option Addr} {n c : Nat} (h : Bx w r neg A n c) : w.cell? ⟨r, 0, none⟩ = some (.bool neg) /\ w.cell? ⟨r, 1, none⟩ = some (.slice A n c) := ⟨h.c0, h.c1⟩
theorem sum_boxes (neg neg' : Bool) (A A' : Option Addr) (n c n' c' : Nat) (w W : World)
 (hW : ((w.alloc (.cells #[.bool neg, .slice A n c] 25)).alloc (.cells #[.bool neg', .slice A' n' c'] 25)).alloc (.cells #[.bool false, .slice none 0 0] 25) = W) :
 Below w.heap.size w W /\ w.heap.size + 1 + 1 < W.heap.size /\ Bx W w.heap.size neg A n c /\ Bx W (w.heap.size + 1) neg' A' n' c' /\ Bx W (w.heap.size + 1 + 1) false none 0 0 := by
 subst hW
 refine ⟨(((Below.refl _ _).alloc (Nat.le_refl _) _).alloc (by simp) _).alloc (by simp; omega) _, by simp, ((Bx.new w _ _ _ _).alloc _).alloc _, ?_, ?_⟩
 . have := (Bx.new (w.alloc (.cells #[.bool neg, .slice A n c] 25)) neg' A' n' c').alloc (.cells #[.bool false, .slice none 0 0] 25)
   simpa using this
 . have := Bx.new ((w.alloc (.cells #[.bool neg, .slice A n c] 25)).alloc (.cells #[.bool neg', .slice A' n' c'] 25)) false none 0 0
   simpa using this
theorem sum_same (neg : Bool) (A A' : Option Addr) (n c n' c' : Nat) (xs ys : List Nat) (w : World) (h : Sl w w.heap.size A n c xs) (h' : Sl w w.heap.size A' n' c' ys) (hn : n <= 1000000) (hn' : n' <= 1000000) :
 Calls Tryz.prog 99 #[.agg #[.bool neg, .slice A n c], .agg #[.bool neg, .slice A' n' c']] w (RetIE (fitZ (sg neg (val xs + val ys : Nat))) (fitE (sg neg (val xs + val ys : Nat))) w) := by
 have ht : (neg == neg) = true := by simp
 go_enter Tryz.func99, Tryz.ntmps99
 go_wp2_with fail
 generalize hW : World.alloc (World.alloc (World.alloc w _) _) _ = W
 obtain ⟨hb, hz, b0, b1, b2⟩ := sum_boxes neg neg A A' n c n' c' w W hW
 have hs := h.on hb
 have hs' := h'.on hb
 clear hW
 have k0 := b0.c0
 have k1 := b0.c1
 have k2 := b1.c1
 have k3 := b2.c0
 have k4 := b2.c1
 have k5 := b2.f 0
 have k6 := b2.f 1
 generalize hr : w.heap.size = r at *
 have HRW := Lib.hid (And.intro hb hr)
 clear hb hr
 have ne1 : r ≠ r + 1 + 1 := by omega
 have ne2 : r + 1 + 1 ≠ r := by omega
 go_region_held3 (fun w' => w'.cell? ⟨r, 0, none⟩ = some (.bool neg) /\ w'.cell? ⟨r, 1, none⟩ = some (.slice A n c) /\ w'.cell? ⟨r + 1, 1, none⟩ = some (.slice A' n' c'))
  (go_keep)
  (first
   | (go_at_call 97
      have L := limited_any neg A1 n1 c1 xs1 w1 hs1 hx1
      rw [hv1] at L
      refine L.mono ?_
      clear L
      rintro e w2 ⟨A2, n2, c2, xs2, rfl, hs2, hx2, hv2, hb2⟩
      have b0'' := b0'.below hb2 (by omega)
      have b1'' := b1'.below hb2 (by omega)
      have b2'' := b2'.below hb2 (by omega)
      have j0' := b0''.c0
      have j1' := b0''.c1
      have j2' := b1''.c1
      have j3' := b2''.c0
      have j4' := b2''.c1
      have j5' := b2''.f 0
      have j6' := b2''.f 1
      have H2 := Lib.hid (And.intro hv1 (And.intro hv2 hx2))
      clear hv1 hv2 hx2)
   | (go_at_call 138
      refine (addMag_any _ _ _ _ _ _ _ _ _ hs.drew hs'.drew hn hn').mono ?_
      rintro e w1 ⟨A1, n1, c1, xs1, rfl, hs1, hx1, hv1, hbd⟩
      have hb1 := below_undrew hbd
      clear hbd
      have b0' := b0.below hb1 (by omega)
      have b1' := b1.below hb1 (by omega)
      have b2' := b2.below hb1 (by omega)
      have hz2 := b2'.lt
      have j0 := b0'.c0
      have j1 := b0'.c1
      have j2 := b1'.c1))
 go_wp2
 exact bodyPost_ret (v := .tuple #[.agg #[.bool (decide (fitZ (sg neg (val xs + val ys : Nat)) < 0)), .slice A2 n2 c2], .int .i64 (fitE (sg neg (val xs + val ys : Nat)))])
  (by simp [results, Tryz.results99, go_sem, j3', j4']) rfl
  ⟨A2, n2, c2, xs2, rfl, hs2.ret b2'' _ _, H2.out.2.2, H2.out.2.1, by rw [HRW.out.2]; exact below_ret (below_chain (below_chain HRW.out.1 (by omega) hb1) (by omega) hb2) (show r <= r + 1 + 1 by omega) _ _⟩
theorem sum_less (neg neg' : Bool) (A A' : Option Addr) (n c n' c' : Nat) (xs ys : List Nat) (w : World) (h : Sl w w.heap.size A n c xs) (h' : Sl w w.heap.size A' n' c' ys) (hx : Nz xs) (hy : Nz ys) (ht : (neg == neg') = false) (hlt : val xs < val ys) :
 Calls Tryz.prog 99 #[.agg #[.bool neg, .slice A n c], .agg #[.bool neg', .slice A' n' c']] w (RetIE (fitZ (sg neg' (val ys - val xs : Nat))) (fitE (sg neg' (val ys - val xs : Nat))) w) := by
 have Hlt := Lib.hid hlt
 have Hcv : Hid ((cmpv (val xs) (val ys) < 0) = True) := by
  rw [Hid]; simp [cmpv_lt hlt]
 clear hlt
 go_enter Tryz.func99, Tryz.ntmps99
 go_wp2_with fail
 generalize hW : World.alloc (World.alloc (World.alloc w _) _) _ = W
 obtain ⟨hb, hz, b0, b1, b2⟩ := sum_boxes neg neg' A A' n c n' c' w W hW
 have hs := h.on hb
 have hs' := h'.on hb
 clear hW
 have q0 := b0.c1
 have q1 := b1.c1
 refine (cmpMag_any _ _ _ _ _ _ _ _ xs ys _ hs hs' hx hy).mono ?_
 rintro e w0 ⟨rfl, q, rfl⟩
 clear q0 q1
 have hb := below_drewN hb q
 have hs : Sl (W.drewN q) (W.drewN q).heap.size A n c xs := hs.drewN q
 have hs' : Sl (W.drewN q) (W.drewN q).heap.size A' n' c' ys := hs'.drewN q
 have b0 := b0.drewN q
 have b1 := b1.drewN q
 have b2 := b2.drewN q
 have hz : w.heap.size + 1 + 1 < (W.drewN q).heap.size := hz
 generalize W.drewN q = W at *
 have k0 := b1.c0
 have k1 := b0.c1
 have k2 := b1.c1
 have k3 := b2.c0
 have k4 := b2.c1
 have k5 := b2.f 0
 have k6 := b2.f 1
 generalize hr : w.heap.size = r at *
 have HRW := Lib.hid (And.intro hb hr)
 clear hb hr
 have ne1 : r ≠ r + 1 + 1 := by omega
 have ne2 : r + 1 + 1 ≠ r := by omega
 have hcv : cmpv (val xs) (val ys) < 0 := by rw [Hcv.out]; trivial
 go_wp2_with fail
 go_region_held3 (fun w' => w'.cell? ⟨r + 1, 0, none⟩ = some (.bool neg') /\ w'.cell? ⟨r, 1, none⟩ = some (.slice A n c) /\ w'.cell? ⟨r + 1, 1, none⟩ = some (.slice A' n' c'))
  (go_keep)
  (first
   | (go_at_call 97
      have L := limited_any neg' A1 n1 c1 xs1 w1 hs1 hx1
      rw [hv1] at L
      refine L.mono ?_
      clear L
      rintro e w2 ⟨A2, n2, c2, xs2, rfl, hs2, hx2, hv2, hb2⟩
      have b0'' := b0'.below hb2 (by omega)
      have b1'' := b1'.below hb2 (by omega)
      have b2'' := b2'.below hb2 (by omega)
      have j0' := b1''.c0
      have j1' := b0''.c1
      have j2' := b1''.c1
      have j3' := b2''.c0
      have j4' := b2''.c1
      have j5' := b2''.f 0
      have j6' := b2''.f 1
      have H2 := Lib.hid (And.intro hv1 (And.intro hv2 hx2))
      clear hv1 hv2 hx2)
   | (go_at_call 140
      refine (subMag_any _ _ _ _ _ _ _ _ _ hs'.drew hs.drew hx (Nat.le_of_lt Hlt.out)).mono ?_
      rintro e w1 ⟨A1, n1, c1, xs1, rfl, hs1, hx1, hv1, hbd⟩
      have hb1 := below_undrew hbd
      clear hbd
      have b0' := b0.below hb1 (by omega)
      have b1' := b1.below hb1 (by omega)
      have b2' := b2.below hb1 (by omega)
      have hz2 := b2'.lt
      have j0 := b1'.c0
      have j1 := b0'.c1
      have j2 := b1'.c1))
 go_wp2
 exact bodyPost_ret (v := .tuple #[.agg #[.bool (decide (fitZ (sg neg' (val ys - val xs : Nat)) < 0)), .slice A2 n2 c2], .int .i64 (fitE (sg neg' (val ys - val xs : Nat)))])
  (by simp [results, Tryz.results99, go_sem, j3', j4']) rfl
  ⟨A2, n2, c2, xs2, rfl, hs2.ret b2'' _ _, H2.out.2.2, H2.out.2.1, by rw [HRW.out.2]; exact below_ret (below_chain (below_chain HRW.out.1 (by omega) hb1) (by omega) hb2) (show r <= r + 1 + 1 by omega) _ _⟩
theorem sum_more (neg neg' : Bool) (A A' : Option Addr) (n c n' c' : Nat) (xs ys : List Nat) (w : World) (h : Sl w w.heap.size A n c xs) (h' : Sl w w.heap.size A' n' c' ys) (hx : Nz xs) (hy : Nz ys) (ht : (neg == neg') = false) (hlt : val ys <= val xs) :
 Calls Tryz.prog 99 #[.agg #[.bool neg, .slice A n c], .agg #[.bool neg', .slice A' n' c']] w (RetIE (fitZ (sg neg (val xs - val ys : Nat))) (fitE (sg neg (val xs - val ys : Nat))) w) := by
 have Hlt := Lib.hid hlt
 have Hcv : Hid ((cmpv (val xs) (val ys) < 0) = False) := by
  rw [Hid]
  rcases Nat.lt_or_ge (val ys) (val xs) with h1 | h1
  . simp [cmpv_gt h1]
  . have e : val xs = val ys := by omega
    rw [e]; simp [cmpv_eq]
 clear hlt
 go_enter Tryz.func99, Tryz.ntmps99
 go_wp2_with fail
 generalize hW : World.alloc (World.alloc (World.alloc w _) _) _ = W
 obtain ⟨hb, hz, b0, b1, b2⟩ := sum_boxes neg neg' A A' n c n' c' w W hW
 have hs := h.on hb
 have hs' := h'.on hb
 clear hW
 have q0 := b0.c1
 have q1 := b1.c1
 refine (cmpMag_any _ _ _ _ _ _ _ _ xs ys _ hs hs' hx hy).mono ?_
 rintro e w0 ⟨rfl, q, rfl⟩
 clear q0 q1
 have hb := below_drewN hb q
 have hs : Sl (W.drewN q) (W.drewN q).heap.size A n c xs := hs.drewN q
 have hs' : Sl (W.drewN q) (W.drewN q).heap.size A' n' c' ys := hs'.drewN q
 have b0 := b0.drewN q
 have b1 := b1.drewN q
 have b2 := b2.drewN q
 have hz : w.heap.size + 1 + 1 < (W.drewN q).heap.size := hz
 generalize W.drewN q = W at *
 have k0 := b0.c0
 have k1 := b0.c1
 have k2 := b1.c1
 have k3 := b2.c0
 have k4 := b2.c1
 have k5 := b2.f 0
 have k6 := b2.f 1
 generalize hr : w.heap.size = r at *
 have HRW := Lib.hid (And.intro hb hr)
 clear hb hr
 have ne1 : r ≠ r + 1 + 1 := by omega
 have ne2 : r + 1 + 1 ≠ r := by omega
 have hcv : 0 <= cmpv (val xs) (val ys) := by have := Hcv.out; simp at this; omega
 go_wp2_with fail
 go_region_held3 (fun w' => w'.cell? ⟨r, 0, none⟩ = some (.bool neg) /\ w'.cell? ⟨r, 1, none⟩ = some (.slice A n c) /\ w'.cell? ⟨r + 1, 1, none⟩ = some (.slice A' n' c'))
  (go_keep)
  (first
   | (go_at_call 97
      have L := limited_any neg A1 n1 c1 xs1 w1 hs1 hx1
      rw [hv1] at L
      refine L.mono ?_
      clear L
      rintro e w2 ⟨A2, n2, c2, xs2, rfl, hs2, hx2, hv2, hb2⟩
      have b0'' := b0'.below hb2 (by omega)
      have b1'' := b1'.below hb2 (by omega)
      have b2'' := b2'.below hb2 (by omega)
      have j0' := b0''.c0
      have j1' := b0''.c1
      have j2' := b1''.c1
      have j3' := b2''.c0
      have j4' := b2''.c1
      have j5' := b2''.f 0
      have j6' := b2''.f 1
      have H2 := Lib.hid (And.intro hv1 (And.intro hv2 hx2))
      clear hv1 hv2 hx2)
   | (go_at_call 140
      refine (subMag_any _ _ _ _ _ _ _ _ _ hs.drew hs'.drew hy Hlt.out).mono ?_
      rintro e w1 ⟨A1, n1, c1, xs1, rfl, hs1, hx1, hv1, hbd⟩
      have hb1 := below_undrew hbd
      clear hbd
      have b0' := b0.below hb1 (by omega)
      have b1' := b1.below hb1 (by omega)
      have b2' := b2.below hb1 (by omega)
      have hz2 := b2'.lt
      have j0 := b0'.c0
      have j1 := b0'.c1
      have j2 := b1'.c1))
 go_wp2
 exact bodyPost_ret (v := .tuple #[.agg #[.bool (decide (fitZ (sg neg (val xs - val ys : Nat)) < 0)), .slice A2 n2 c2], .int .i64 (fitE (sg neg (val xs - val ys : Nat)))])
  (by simp [results, Tryz.results99, go_sem, j3', j4']) rfl
  ⟨A2, n2, c2, xs2, rfl, hs2.ret b2'' _ _, H2.out.2.2, H2.out.2.1, by rw [HRW.out.2]; exact below_ret (below_chain (below_chain HRW.out.1 (by omega) hb1) (by omega) hb2) (show r <= r + 1 + 1 by omega) _ _⟩
theorem sg_add (neg : Bool) (a b : Nat) : sg neg (a + b) = sg neg a + sg neg b := by cases neg <;> simp only [sg_true, sg_false] <;> omega
theorem sg_sub {neg neg' : Bool} (h : (neg == neg') = false) {a b : Nat} (hle : b <= a) : sg neg (a - b) = sg neg a + sg neg' b := by
 cases neg <;> cases neg' <;> simp only [sg_true, sg_false] <;> first | omega | (simp at h)
theorem beq_comm' {a b : Bool} (h : (a == b) = false) : (b == a) = false := by cases a <;> cases b <;> simp_all
theorem sum_any (neg neg' : Bool) (A A' : Option Addr) (n c n' c' : Nat) (xs ys : List Nat) (w : World) (h : Sl w w.heap.size A n c xs) (h' : Sl w w.heap.size A' n' c' ys) (hx : Nz xs) (hy : Nz ys) (hn : n <= 1000000) (hn' : n' <= 1000000) :
 Calls Tryz.prog 99 #[.agg #[.bool neg, .slice A n c], .agg #[.bool neg', .slice A' n' c']] w (RetIE (fitZ (sg neg (val xs) + sg neg' (val ys))) (fitE (sg neg (val xs) + sg neg' (val ys))) w) := by
 by_cases he : neg = neg'
 . subst he
   have := sum_same neg A A' n c n' c' xs ys w h h' hn hn'
   rwa [sg_add] at this
 . have ht : (neg == neg') = false := by rw [beq_eq_false_iff_ne]; exact he
   rcases Nat.lt_or_ge (val xs) (val ys) with hlt | hge
   . have := sum_less neg neg' A A' n c n' c' xs ys w h h' hx hy ht hlt
     rwa [sg_sub (beq_comm' ht) (Nat.le_of_lt hlt), Int.add_comm] at this
   . have := sum_more neg neg' A A' n c n' c' xs ys w h h' hx hy ht hge
     rwa [sg_sub ht hge] at this
theorem vld_true {neg : Bool} {xs : List Nat} (h : vld neg xs = true) : xs.length <= 128 /\ Nz xs /\ (xs = [] -> neg = false) := by
 unfold vld at h
 by_cases h0 : xs.length = 0
 . rw [if_pos h0] at h
   have e : xs = [] := List.eq_nil_of_length_eq_zero h0
   subst e
   exact ⟨by simp, Nz.nil, fun _ => by simpa using h⟩
 . rw [if_neg h0] at h
   simp only [Bool.and_eq_true, decide_eq_true_eq, Bool.not_eq_true', beq_eq_false_iff_ne] at h
   have hne : xs ≠ [] := by rintro rfl; exact h0 rfl
   exact ⟨h.1, (nz_iff hne).2 h.2, fun e => absurd e hne⟩
end Go.Proofs.YtmncfbfepdbioaaGreatDoor
namespace Go.Proofs.YtmncfbfepdbioaaGreatDoor
open Go.RowKit
theorem add_bad1 (neg neg' : Bool) (A A' : Option Addr) (n c n' c' : Nat) (xs : List Nat) (w : World) (h : Sl w w.heap.size A n c xs) (hv : vld neg xs = false) :
 Calls Tryz.prog 45 #[.agg #[.bool neg, .slice A n c], .agg #[.bool neg', .slice A' n' c']] w (RetIE 0 1 w) := by
 go_enter Tryz.func45, Tryz.ntmps45
 go_wp2_with fail
 generalize hW : World.alloc (World.alloc (World.alloc w _) _) _ = W
 obtain ⟨hb, hz, b0, b1, b2⟩ := sum_boxes neg neg' A A' n c n' c' w W hW
 have hs := h.on hb
 clear hW
 refine (valid_any _ _ _ _ _ xs _ hs (Nat.le_refl _)).mono ?_
 rintro e w1 ⟨rfl, hb1⟩
 have b2' := b2.below hb1 (by omega)
 have k3 := b2'.c0
 have k4 := b2'.c1
 have k5 := b2'.f 0
 have k6 := b2'.f 1
 generalize hr : w.heap.size = r at *
 have HRW := Lib.hid (And.intro hb hr)
 clear hb hr
 go_wp2
 exact bodyPost_ret (v := .tuple #[.agg #[.bool false, .slice none 0 0], .int .i64 1]) (by simp [results, Tryz.results45, go_sem, k3, k4]) rfl
  ⟨none, 0, 0, [], rfl, Sl.nil _ _, Nz.nil, rfl, by rw [HRW.out.2]; exact below_ret (below_chain HRW.out.1 (by omega) hb1) (show r <= r + 1 + 1 by omega) _ _⟩
theorem add_bad2 (neg neg' : Bool) (A A' : Option Addr) (n c n' c' : Nat) (xs ys : List Nat) (w : World) (h : Sl w w.heap.size A n c xs) (h' : Sl w w.heap.size A' n' c' ys) (hv : vld neg xs = true) (hv' : vld neg' ys = false) :
 Calls Tryz.prog 45 #[.agg #[.bool neg, .slice A n c], .agg #[.bool neg', .slice A' n' c']] w (RetIE 0 1 w) := by
 go_enter Tryz.func45, Tryz.ntmps45
 go_wp2_with fail
 generalize hW : World.alloc (World.alloc (World.alloc w _) _) _ = W
 obtain ⟨hb, hz, b0, b1, b2⟩ := sum_boxes neg neg' A A' n c n' c' w W hW
 have hs := h.on hb
 have hs' := h'.on hb
 clear hW
 refine (valid_any _ _ _ _ _ xs _ hs (Nat.le_refl _)).mono ?_
 rintro e w1 ⟨rfl, hb1⟩
 have hz1 : w.heap.size + 1 + 1 < w1.heap.size := by have := hb1.size; omega
 have b1' := b1.below hb1 (by omega)
 have b2' := b2.below hb1 (by omega)
 have q0 := b1'.c0
 have q1 := b1'.c1
 go_wp2_with fail
 refine (valid_any _ _ _ _ _ ys _ (hs'.on hb1) (Nat.le_refl _)).mono ?_
 rintro e w2 ⟨rfl, hb2⟩
 clear q0 q1
 have b2'' := b2'.below hb2 (by omega)
 have k3 := b2''.c0
 have k4 := b2''.c1
 have k5 := b2''.f 0
 have k6 := b2''.f 1
 generalize hr : w.heap.size = r at *
 have HRW := Lib.hid (And.intro hb hr)
 clear hb hr
 go_wp2
 exact bodyPost_ret (v := .tuple #[.agg #[.bool false, .slice none 0 0], .int .i64 1]) (by simp [results, Tryz.results45, go_sem, k3, k4]) rfl
  ⟨none, 0, 0, [], rfl, Sl.nil _ _, Nz.nil, rfl, by rw [HRW.out.2]; exact below_ret (below_chain (below_chain HRW.out.1 (by omega) hb1) (by omega) hb2) (show r <= r + 1 + 1 by omega) _ _⟩
theorem add_good (neg neg' : Bool) (A A' : Option Addr) (n c n' c' : Nat) (xs ys : List Nat) (w : World) (h : Sl w w.heap.size A n c xs) (h' : Sl w w.heap.size A' n' c' ys) (hv : vld neg xs = true) (hv' : vld neg' ys = true) :
 Calls Tryz.prog 45 #[.agg #[.bool neg, .slice A n c], .agg #[.bool neg', .slice A' n' c']] w (RetIE (fitZ (sg neg (val xs) + sg neg' (val ys))) (fitE (sg neg (val xs) + sg neg' (val ys))) w) := by
 have Hg := Lib.hid (And.intro (vld_true hv) (vld_true hv'))
 have hlx := h.len
 have hly := h'.len
 have hn : n <= 1000000 := by have := Hg.out.1.1; omega
 have hn' : n' <= 1000000 := by have := Hg.out.2.1; omega
 clear hlx hly
 go_enter Tryz.func45, Tryz.ntmps45
 go_wp2_with fail
 generalize hW : World.alloc (World.alloc (World.alloc w _) _) _ = W
 obtain ⟨hb, hz, b0, b1, b2⟩ := sum_boxes neg neg' A A' n c n' c' w W hW
 have hs := h.on hb
 have hs' := h'.on hb
 clear hW
 refine (valid_any _ _ _ _ _ xs _ hs (Nat.le_refl _)).mono ?_
 rintro e w1 ⟨rfl, hb1⟩
 have hz1 : w.heap.size + 1 + 1 < w1.heap.size := by have := hb1.size; omega
 have b0' := b0.below hb1 (by omega)
 have b1' := b1.below hb1 (by omega)
 have b2' := b2.below hb1 (by omega)
 have hs1 := hs.on hb1
 have hs1' := hs'.on hb1
 have q0 := b1'.c0
 have q1 := b1'.c1
 go_wp2_with fail
 refine (valid_any _ _ _ _ _ ys _ hs1' (Nat.le_refl _)).mono ?_
 rintro e w2 ⟨rfl, hb2⟩
 clear q0 q1
 have hz2 : w.heap.size + 1 + 1 < w2.heap.size := by have := hb2.size; omega
 have b0'' := b0'.below hb2 (by omega)
 have b1'' := b1'.below hb2 (by omega)
 have b2'' := b2'.below hb2 (by omega)
 have hs2 := hs1.on hb2
 have hs2' := hs1'.on hb2
 have k0 := b0''.c0
 have k1 := b0''.c1
 have k2 := b1''.c0
 have k3 := b1''.c1
 generalize hr : w.heap.size = r at *
 have HRW := Lib.hid (And.intro hb hr)
 clear hb hr
 go_wp2_with fail
 refine (sum_any _ _ _ _ _ _ _ _ xs ys _ hs2 hs2' Hg.out.1.2.1 Hg.out.2.2.1 hn hn').mono ?_
 rintro e w3 ⟨A3, n3, c3, xs3, rfl, hs3, hx3, hv3, hb3⟩
 have b3 := b2''.below hb3 (by omega)
 have j3 := b3.c0
 have j4 := b3.c1
 have j5 := b3.f 0
 have j6 := b3.f 1
 have Hv3 := Lib.hid hv3
 clear hv3
 go_wp2
 exact bodyPost_ret (v := .tuple #[.agg #[.bool (decide (fitZ (sg neg (val xs) + sg neg' (val ys)) < 0)), .slice A3 n3 c3], .int .i64 (fitE (sg neg (val xs) + sg neg' (val ys)))]) (by simp [results, Tryz.results45, go_sem, j3, j4]) rfl
  ⟨A3, n3, c3, xs3, rfl, hs3.ret b3 _ _, hx3, Hv3.out, by rw [HRW.out.2]; exact below_ret (below_chain (below_chain (below_chain HRW.out.1 (by omega) hb1) (by omega) hb2) (by omega) hb3) (show r <= r + 1 + 1 by omega) _ _⟩
theorem sub_bad1 (neg neg' : Bool) (A A' : Option Addr) (n c n' c' : Nat) (xs : List Nat) (w : World) (h : Sl w w.heap.size A n c xs) (hv : vld neg xs = false) :
 Calls Tryz.prog 192 #[.agg #[.bool neg, .slice A n c], .agg #[.bool neg', .slice A' n' c']] w (RetIE 0 1 w) := by
 go_enter Tryz.func192, Tryz.ntmps192
 go_wp2_with fail
 generalize hW : World.alloc (World.alloc (World.alloc w _) _) _ = W
 obtain ⟨hb, hz, b0, b1, b2⟩ := sum_boxes neg neg' A A' n c n' c' w W hW
 have hs := h.on hb
 clear hW
 refine (valid_any _ _ _ _ _ xs _ hs (Nat.le_refl _)).mono ?_
 rintro e w1 ⟨rfl, hb1⟩
 have b2' := b2.below hb1 (by omega)
 have k3 := b2'.c0
 have k4 := b2'.c1
 have k5 := b2'.f 0
 have k6 := b2'.f 1
 generalize hr : w.heap.size = r at *
 have HRW := Lib.hid (And.intro hb hr)
 clear hb hr
 go_wp2
 exact bodyPost_ret (v := .tuple #[.agg #[.bool false, .slice none 0 0], .int .i64 1]) (by simp [results, Tryz.results192, go_sem, k3, k4]) rfl
  ⟨none, 0, 0, [], rfl, Sl.nil _ _, Nz.nil, rfl, by rw [HRW.out.2]; exact below_ret (below_chain HRW.out.1 (by omega) hb1) (show r <= r + 1 + 1 by omega) _ _⟩
theorem sub_bad2 (neg neg' : Bool) (A A' : Option Addr) (n c n' c' : Nat) (xs ys : List Nat) (w : World) (h : Sl w w.heap.size A n c xs) (h' : Sl w w.heap.size A' n' c' ys) (hv : vld neg xs = true) (hv' : vld neg' ys = false) :
 Calls Tryz.prog 192 #[.agg #[.bool neg, .slice A n c], .agg #[.bool neg', .slice A' n' c']] w (RetIE 0 1 w) := by
 go_enter Tryz.func192, Tryz.ntmps192
 go_wp2_with fail
 generalize hW : World.alloc (World.alloc (World.alloc w _) _) _ = W
 obtain ⟨hb, hz, b0, b1, b2⟩ := sum_boxes neg neg' A A' n c n' c' w W hW
 have hs := h.on hb
 have hs' := h'.on hb
 clear hW
 refine (valid_any _ _ _ _ _ xs _ hs (Nat.le_refl _)).mono ?_
 rintro e w1 ⟨rfl, hb1⟩
 have hz1 : w.heap.size + 1 + 1 < w1.heap.size := by have := hb1.size; omega
 have b1' := b1.below hb1 (by omega)
 have b2' := b2.below hb1 (by omega)
 have q0 := b1'.c0
 have q1 := b1'.c1
 go_wp2_with fail
 refine (valid_any _ _ _ _ _ ys _ (hs'.on hb1) (Nat.le_refl _)).mono ?_
 rintro e w2 ⟨rfl, hb2⟩
 clear q0 q1
 have b2'' := b2'.below hb2 (by omega)
 have k3 := b2''.c0
 have k4 := b2''.c1
 have k5 := b2''.f 0
 have k6 := b2''.f 1
 generalize hr : w.heap.size = r at *
 have HRW := Lib.hid (And.intro hb hr)
 clear hb hr
 go_wp2
 exact bodyPost_ret (v := .tuple #[.agg #[.bool false, .slice none 0 0], .int .i64 1]) (by simp [results, Tryz.results192, go_sem, k3, k4]) rfl
  ⟨none, 0, 0, [], rfl, Sl.nil _ _, Nz.nil, rfl, by rw [HRW.out.2]; exact below_ret (below_chain (below_chain HRW.out.1 (by omega) hb1) (by omega) hb2) (show r <= r + 1 + 1 by omega) _ _⟩
theorem sub_good (neg neg' : Bool) (A A' : Option Addr) (n c n' c' : Nat) (xs ys : List Nat) (w : World) (h : Sl w w.heap.size A n c xs) (h' : Sl w w.heap.size A' n' c' ys) (hv : vld neg xs = true) (hv' : vld neg' ys = true) :
 Calls Tryz.prog 192 #[.agg #[.bool neg, .slice A n c], .agg #[.bool neg', .slice A' n' c']] w (RetIE (fitZ (sg neg (val xs) + sg (!neg') (val ys))) (fitE (sg neg (val xs) + sg (!neg') (val ys))) w) := by
 have Hg := Lib.hid (And.intro (vld_true hv) (vld_true hv'))
 have hlx := h.len
 have hly := h'.len
 have hn : n <= 1000000 := by have := Hg.out.1.1; omega
 have hn' : n' <= 1000000 := by have := Hg.out.2.1; omega
 clear hlx hly
 go_enter Tryz.func192, Tryz.ntmps192
 go_wp2_with fail
 generalize hW : World.alloc (World.alloc (World.alloc w _) _) _ = W
 obtain ⟨hb, hz, b0, b1, b2⟩ := sum_boxes neg neg' A A' n c n' c' w W hW
 have hs := h.on hb
 have hs' := h'.on hb
 clear hW
 refine (valid_any _ _ _ _ _ xs _ hs (Nat.le_refl _)).mono ?_
 rintro e w1 ⟨rfl, hb1⟩
 have hz1 : w.heap.size + 1 + 1 < w1.heap.size := by have := hb1.size; omega
 have b0' := b0.below hb1 (by omega)
 have b1' := b1.below hb1 (by omega)
 have b2' := b2.below hb1 (by omega)
 have hs1 := hs.on hb1
 have hs1' := hs'.on hb1
 have q0 := b1'.c0
 have q1 := b1'.c1
 go_wp2_with fail
 refine (valid_any _ _ _ _ _ ys _ hs1' (Nat.le_refl _)).mono ?_
 rintro e w2 ⟨rfl, hb2⟩
 clear q0 q1
 have hz2 : w.heap.size + 1 + 1 < w2.heap.size := by have := hb2.size; omega
 have b0'' := b0'.below hb2 (by omega)
 have b1'' := b1'.below hb2 (by omega)
 have b2'' := b2'.below hb2 (by omega)
 have hs2 := hs1.on hb2
 have hs2' := hs1'.on hb2
 have k0 := b0''.c0
 have k1 := b0''.c1
 have k2 := b1''.c0
 have k3 := b1''.c1
 generalize hr : w.heap.size = r at *
 have HRW := Lib.hid (And.intro hb hr)
 clear hb hr
 go_wp2_with fail
 refine (sum_any _ _ _ _ _ _ _ _ xs ys _ hs2 hs2' Hg.out.1.2.1 Hg.out.2.2.1 hn hn').mono ?_
 rintro e w3 ⟨A3, n3, c3, xs3, rfl, hs3, hx3, hv3, hb3⟩
 have b3 := b2''.below hb3 (by omega)
 have j3 := b3.c0
 have j4 := b3.c1
 have j5 := b3.f 0
 have j6 := b3.f 1
 have Hv3 := Lib.hid hv3
 clear hv3
 go_wp2
 exact bodyPost_ret (v := .tuple #[.agg #[.bool (decide (fitZ (sg neg (val xs) + sg (!neg') (val ys)) < 0)), .slice A3 n3 c3], .int .i64 (fitE (sg neg (val xs) + sg (!neg') (val ys)))]) (by simp [results, Tryz.results192, go_sem, j3, j4]) rfl
  ⟨A3, n3, c3, xs3, rfl, hs3.ret b3 _ _, hx3, Hv3.out, by rw [HRW.out.2]; exact below_ret (below_chain (below_chain (below_chain HRW.out.1 (by omega) hb1) (by omega) hb2) (by omega) hb3) (show r <= r + 1 + 1 by omega) _ _⟩
def opZ (ok : Bool) (z : Int) : Int := if ok then fitZ z else 0
def opE (ok : Bool) (z : Int) : Int := if ok then fitE z else 1
theorem add_any (neg neg' : Bool) (A A' : Option Addr) (n c n' c' : Nat) (xs ys : List Nat) (w : World) (h : Sl w w.heap.size A n c xs) (h' : Sl w w.heap.size A' n' c' ys) :
 Calls Tryz.prog 45 #[.agg #[.bool neg, .slice A n c], .agg #[.bool neg', .slice A' n' c']] w
  (RetIE (opZ (vld neg xs && vld neg' ys) (sg neg (val xs) + sg neg' (val ys))) (opE (vld neg xs && vld neg' ys) (sg neg (val xs) + sg neg' (val ys))) w) := by
 rcases hv : vld neg xs with _ | _
 . exact add_bad1 neg neg' A A' n c n' c' xs w h hv
 . rcases hv' : vld neg' ys with _ | _
   . exact add_bad2 neg neg' A A' n c n' c' xs ys w h h' hv hv'
   . exact add_good neg neg' A A' n c n' c' xs ys w h h' hv hv'
theorem sub_any (neg neg' : Bool) (A A' : Option Addr) (n c n' c' : Nat) (xs ys : List Nat) (w : World) (h : Sl w w.heap.size A n c xs) (h' : Sl w w.heap.size A' n' c' ys) :
 Calls Tryz.prog 192 #[.agg #[.bool neg, .slice A n c], .agg #[.bool neg', .slice A' n' c']] w
  (RetIE (opZ (vld neg xs && vld neg' ys) (sg neg (val xs) + sg (!neg') (val ys))) (opE (vld neg xs && vld neg' ys) (sg neg (val xs) + sg (!neg') (val ys))) w) := by
 rcases hv : vld neg xs with _ | _
 . exact sub_bad1 neg neg' A A' n c n' c' xs w h hv
 . rcases hv' : vld neg' ys with _ | _
   . exact sub_bad2 neg neg' A A' n c n' c' xs ys w h h' hv hv'
   . exact sub_good neg neg' A A' n c n' c' xs ys w h h' hv hv'
end Go.Proofs.YtmncfbfepdbioaaGreatDoor
namespace Go.Proofs.YtmncfbfepdbioaaGreatDoor
open Go.RowKit
section
variable {P : Program} (w : World)
theorem run_append_of_nil (base : Nat) (t ty e : TypeId) (i : TypeInfo) (size : Nat) (ht : P.underlying t = some (.slice e)) (hi : P.info? e = some i)
 (v : Value) (n : Nat) (xs : List Value) (hown : w.ownsRow base e size v n xs) (c : Nat) : (Builtin.append_ #[t, t] ty #[v, .slice none 0 c]).run P w = .ok v w := by
 rcases hown.2 with ⟨rfl, rfl⟩ | ⟨g, cap, cur, rfl, _, _, hnc, _⟩
 . simp [Builtin.append_, run_underlying ht, sizeOf, typeInfo, hi, Builtin.lenOf, Builtin.firstCells]
 . simp [Builtin.append_, run_underlying ht, sizeOf, typeInfo, hi, Builtin.lenOf, Builtin.firstCells, hnc, storeCells]
theorem run_append_any (base : Nat) (t ty e : TypeId) (i : TypeInfo) (z : Value) (size bytes : Nat) (ht : P.underlying t = some (.slice e)) (hi : P.info? e = some i) (hz : i.zero = some z)
 (hsize : i.size = size) (hby : i.bytes = bytes) (hzs : z.cells.size = size) (hsz : 0 < size)
 (v : Value) (n : Nat) (xs : List Value) (hown : w.ownsRow base e size v n xs)
 (B : Nat) (A : Option Addr) (m c : Nat) (news : List Value) (hr : Reads w B size A m news) (h1 : ∀ u ∈ news, u.oneCell' = true)
 (h63 : n + m <= maxLen) (hbytes : (n + m) * bytes <= 140737488355328) (hbase : base <= w.heap.size) :
 ∃ v' w', (Builtin.append_ #[t, t] ty #[v, .slice A m c]).run P w = .ok v' w' /\ w'.ownsRow base e size v' (n + m) (xs ++ news) /\ w.grownBy w' v.ownBlock ∧
   (v'.ownBlock = v.ownBlock \/ v'.ownBlock = some w.heap.size) := by
 rcases A with _ | ad
 . have hm : m = 0 := by
    rcases Nat.eq_zero_or_pos m with h0 | h0
    . exact h0
    . obtain ⟨ad, h, _⟩ := hr.2 h0
      cases h
   subst hm
   have hn : news = [] := List.eq_nil_of_length_eq_zero (by simpa using hr.1)
   subst hn
   exact ⟨v, w, run_append_of_nil w base t ty e i size ht hi v n xs hown c, by simpa using hown, World.grownBy.refl w _, .inl rfl⟩
 . have hcells : ∀ j u, news[j]? = some u -> w.cell? (ad.add j) = some u := by
    intro j u hu
    rcases Nat.eq_zero_or_pos m with h0 | h0
    . subst h0
      have hn : news = [] := List.eq_nil_of_length_eq_zero (by simpa using hr.1)
      subst hn
      simp at hu
    . obtain ⟨ad', h, _, hc⟩ := hr.2 h0
      injection h with h
      subst h
      exact hc j u hu
   obtain ⟨v', w', hrun, h2, h3, _, h5⟩ := run_append_own_at (P := P) w base t ty e i z size bytes ht hi hz hsize hby hzs hsz v n xs hown ad m c news hr.1 hcells h1 h63 hbytes hbase
   exact ⟨v', w', hrun, h2, h3, h5⟩
theorem wp_append_any {o : Oper} {a : Act} {K : Act -> World -> Prop} {Q : Exit -> Act -> World -> Prop} (s x : Operand) (t : TypeId)
 (ho : o.op = .call { callee := .builtin .append, args := #[s, x], argTypes := #[t, t] })
 (base : Nat) (e : TypeId) (i : TypeInfo) (z : Value) (size bytes : Nat) (ht : P.underlying t = some (.slice e)) (hi : P.info? e = some i) (hz : i.zero = some z)
 (hsize : i.size = size) (hby : i.bytes = bytes) (hzs : z.cells.size = size) (hsz : 0 < size)
 (v : Value) (n : Nat) (xs : List Value) (hs : a.eval s = v) (hown : w.ownsRow base e size v n xs)
 (B : Nat) (A : Option Addr) (m c : Nat) (news : List Value) (hx : a.eval x = .slice A m c) (hr : Reads w B size A m news) (h1 : ∀ u ∈ news, u.oneCell' = true)
 (h63 : n + m <= maxLen) (hbytes : (n + m) * bytes <= 140737488355328) (hbase : base <= w.heap.size)
 (h : ∀ v' w', w'.ownsRow base e size v' (n + m) (xs ++ news) -> w.grownBy w' v.ownBlock -> (v'.ownBlock = v.ownBlock \/ v'.ownBlock = some w.heap.size) -> K (a.put o.dst v') w') : o.wp P a w K Q := by
 obtain ⟨v', w', hrun, h2, h3, h4⟩ := run_append_any (P := P) w base t o.type e i z size bytes ht hi hz hsize hby hzs hsz v n xs hown B A m c news hr h1 h63 hbytes hbase
 unfold Oper.wp execOp
 simp only [ho, resolve, invoke, builtin, Sem.run_bind, Sem.run_pure, Result.andThen_ok, List.map_toArray, List.map_cons, List.map_nil, hs, hx, hrun]
 exact h v' w' h2 h3 h4
theorem wpList_append_any {ops : Array Oper} {rest : List Oper} {o : Oper} {a : Act} {Q : Exit -> Act -> World -> Prop} (hgd : o.guard = none) (s x : Operand) (t : TypeId)
 (ho : o.op = .call { callee := .builtin .append, args := #[s, x], argTypes := #[t, t] })
 (base : Nat) (e : TypeId) (i : TypeInfo) (z : Value) (size bytes : Nat) (ht : P.underlying t = some (.slice e)) (hi : P.info? e = some i) (hz : i.zero = some z)
 (hsize : i.size = size) (hby : i.bytes = bytes) (hzs : z.cells.size = size) (hsz : 0 < size)
 (v : Value) (n : Nat) (xs : List Value) (hs : a.eval s = v) (hown : w.ownsRow base e size v n xs)
 (B : Nat) (A : Option Addr) (m c : Nat) (news : List Value) (hx : a.eval x = .slice A m c) (hr : Reads w B size A m news) (h1 : ∀ u ∈ news, u.oneCell' = true)
 (h63 : n + m <= maxLen) (hbytes : (n + m) * bytes <= 140737488355328) (hbase : base <= w.heap.size)
 (h : ∀ v' w', w'.ownsRow base e size v' (n + m) (xs ++ news) -> w.grownBy w' v.ownBlock -> (v'.ownBlock = v.ownBlock \/ v'.ownBlock = some w.heap.size) -> wpList P ops Q rest (a.put o.dst v') w') : wpList P ops Q (o :: rest) a w :=
 wpList_plain hgd fun _ hK => wp_append_any w s x t ho base e i z size bytes ht hi hz hsize hby hzs hsz v n xs hs hown B A m c news hx hr h1 h63 hbytes hbase fun v' w' h2 h3 h4 => hK _ _ (h v' w' h2 h3 h4)
end
theorem own_empty {w : World} {g : Nat} (h : Blk w g 44 #[]) : w.ownsRow g 44 1 (.slice (some ⟨g, 0, none⟩) 0 0) 0 [] :=
 ⟨rfl, .inr ⟨g, 0, #[], rfl, Nat.le_refl _, h, Nat.le_refl _, Nat.zero_le _, rfl, rfl⟩⟩
theorem sl_of_own {w : World} {base m : Nat} {v : Value} {xs : List Nat} (h : w.ownsRow base 44 1 v m (us xs)) (hm : m <= 35184372088832) (hx : Ok xs) :
 ∃ A c, v = .slice A m c /\ Sl w w.heap.size A m c xs := by
 rcases h.2 with ⟨rfl, rfl⟩ | ⟨g, cap, cur, rfl, _, _, hnc, hcap, _⟩
 . have hl : (us xs).length = 0 := by simpa using h.1
   have e : xs = [] := by rw [us_length] at hl; exact List.eq_nil_of_length_eq_zero hl
   subst e
   exact ⟨_, _, rfl, Sl.nil _ _⟩
 . exact ⟨_, _, rfl, ⟨hnc, hm, hcap, (fun e => by cases e), Reads.of_own h, hx⟩⟩
theorem copy_app {w : World} {ops : Array Oper} {rest : List Oper} {o : Oper} {a : Act} {Q : Exit -> Act -> World -> Prop} (hgd : o.guard = none) (s x : Operand)
 (ho : o.op = .call { callee := .builtin .append, args := #[s, x], argTypes := #[23, 23] }) (g m c B : Nat) (A : Option Addr) (xs : List Nat)
 (hs : a.eval s = .slice (some ⟨g, 0, none⟩) 0 0) (hr : Blk w g 44 #[]) (hx : a.eval x = .slice A m c) (hsl : Sl w B A m c xs)
 (h : ∀ A' c' w', Sl w' w'.heap.size A' m c' xs -> w.grownBy w' (some g) -> wpList Tryz.prog ops Q rest (a.put o.dst (.slice A' m c')) w') :
 wpList Tryz.prog ops Q (o :: rest) a w := by
 obtain ⟨i0, hi0, hz0, hz1, hz2⟩ := info_parts u32_info
 have hm := hsl.reach
 refine wpList_append_any w hgd s x 23 ho g 44 i0 _ 1 4 Tryz.underlying23 hi0 hz0 hz1 hz2 rfl (by omega) _ 0 [] hs (own_empty hr) B A m c (us xs) hx hsl.reads ?_ (by unfold maxLen; omega) (by omega) (Nat.le_of_lt (Blk.lt hr)) ?_
 . intro u hu
   simp only [us, List.mem_map] at hu
   obtain ⟨y, _, rfl⟩ := hu
   rfl
 . intro v' w' hown hg _
   rw [Nat.zero_add, List.nil_append] at hown
   obtain ⟨A', c', rfl, hsl'⟩ := sl_of_own hown hm hsl.ok
   exact h A' c' w' hsl' hg
end Go.Proofs.YtmncfbfepdbioaaGreatDoor
namespace Go.Proofs.YtmncfbfepdbioaaGreatDoor
theorem lim_digit {xs : List Nat} (h : Ok xs) (k : Nat) : lim xs k = val xs / 4294967296 ^ k % 4294967296 := by
 induction xs generalizing k with
 | nil => simp [lim_eq, val]
 | cons x xs ih =>
   have hx := h.head
   rcases k with _ | k
   . rw [val_cons, Nat.pow_zero, Nat.div_one, lim_eq]
     simp; omega
   . rw [lim_eq, List.getElem?_cons_succ, <- lim_eq, ih h.tail, val_cons, Nat.pow_succ, Nat.mul_comm _ 4294967296, <- Nat.div_div_eq_div_mul]
     congr 2
     omega
theorem wv_digits {zs : List Nat} {N : Nat} {k : Nat} (h : ∀ i, i < k -> lim zs i = N / 4294967296 ^ i % 4294967296) : wv zs 0 k = N % 4294967296 ^ k := by
 induction k with
 | zero => simp [wv, Nat.mod_one]
 | succ k ih =>
   rw [wv_succ, ih (fun i hi => h i (by omega)), Nat.zero_add, h k (by omega), Nat.pow_succ, Nat.mod_mul]
theorem pow_split (c : Nat) (hc : c <= 32) : 4294967296 = 2 ^ c * 2 ^ (32 - c) := by
 rw [<- Nat.pow_add, show c + (32 - c) = 32 by omega]
theorem two_digits (M : Nat) : M % 4294967296 + 4294967296 * (M / 4294967296 % 4294967296) = M % (4294967296 * 4294967296) := (Nat.mod_mul).symm
theorem shr_limb (N k c : Nat) (hc : c <= 32) : (N / 4294967296 ^ k % 4294967296 + 4294967296 * (N / 4294967296 ^ (k + 1) % 4294967296)) / 2 ^ c % 4294967296 = N / 2 ^ c / 4294967296 ^ k % 4294967296 := by
 rw [Nat.pow_succ, <- Nat.div_div_eq_div_mul N, two_digits, Nat.div_div_eq_div_mul N, Nat.mul_comm (2 ^ c), <- Nat.div_div_eq_div_mul N]
 generalize N / 4294967296 ^ k = M
 have e : 4294967296 * 4294967296 = 2 ^ c * (2 ^ (32 - c) * 4294967296) := by rw [<- Nat.mul_assoc, <- pow_split c hc]
 rw [e, Nat.mod_mul_right_div_self, Nat.mod_mod_of_dvd _ (Nat.dvd_mul_left _ _)]
end Go.Proofs.YtmncfbfepdbioaaGreatDoor
namespace Go.Proofs.YtmncfbfepdbioaaGreatDoor
open Go.RowKit
theorem mul_bd {a f c t : Nat} (ha : a < 4294967296) (hf : f < 4294967296) (hc : c < 4294967296) (ht : t < 4294967296) : a * f <= 18446744065119617025 /\ c + (a * f + t) < 18446744073709551616 := by
 have h := Nat.mul_le_mul (show a <= 4294967295 by omega) (show f <= 4294967295 by omega)
 omega
theorem mulp_rel {w wr : World} {zs zr ys : List Nat} {g off k cy f : Nat} (hlt : off + k < zr.length) (Hrow : Hid (Row wr g zr)) (Hok : Hid (Ok zr)) (Hsame : Hid (Same zs zr off (off + k)))
 (Hval : Hid (wv zr off k + 4294967296 ^ k * cy = wv zs off k + val (ys.take k) * f)) (Hgr : Hid (w.grownBy wr (some g))) (s : Nat) (hs : s = cy + (lim ys k * f + lim zr (off + k))) :
 Hid (Row (wr.setCell ⟨g, off + k, none⟩ (.int .u32 ((s % 4294967296 : Nat) : Int))) g (zr.set (off + k) (s % 4294967296))) /\ Hid (Ok (zr.set (off + k) (s % 4294967296))) ∧
 Hid (Same zs (zr.set (off + k) (s % 4294967296)) off (off + (k + 1))) ∧
 Hid (wv (zr.set (off + k) (s % 4294967296)) off (k + 1) + 4294967296 ^ (k + 1) * (s / 4294967296) = wv zs off (k + 1) + val (ys.take (k + 1)) * f) ∧
 Hid (w.grownBy (wr.setCell ⟨g, off + k, none⟩ (.int .u32 ((s % 4294967296 : Nat) : Int))) (some g)) := by
 refine ⟨Hrow.out.set _ _, Hok.out.set _ (by omega), Hsame.out.snoc _, ?_, grown_set Hgr.out _ _⟩
 rw [Hid, wv_set_end hlt, wv_succ, val_take_succ, Nat.pow_succ, Nat.add_mul, Nat.mul_assoc (4294967296 ^ k) (lim ys k) f]
 have e := Hsame.out.2 (off + k) (.inr (Nat.le_refl _))
 exact add_step (b := lim ys k * f) (by rw [hs, e]; generalize lim ys k * f = p; omega) Hval.out
theorem hid_drewN {w : World} {g i : Nat} {v : Value} {zs' : List Nat} {P Q R : Prop} {wr : World}
 (h : Hid (Row (wr.setCell ⟨g, i, none⟩ v) g zs') /\ P /\ Q /\ R /\ Hid (w.grownBy (wr.setCell ⟨g, i, none⟩ v) (some g))) (n : Nat) :
 Hid (Row ((wr.drewN n).setCell ⟨g, i, none⟩ v) g zs') /\ P /\ Q /\ R /\ Hid (w.grownBy ((wr.drewN n).setCell ⟨g, i, none⟩ v) (some g)) :=
 ⟨h.1.out, h.2.1, h.2.2.1, h.2.2.2.1, grown_drewN h.2.2.2.2.out n⟩
theorem addProduct_any (g off n c B m d f : Nat) (A : Option Addr) (zs ys : List Nat) (w : World) (hr : Row w g zs) (hoff : off + n <= zs.length) (hz : Ok zs) (hl : off + n <= 35184372088832)
 (h : Sl w B A m d ys) (hB : B <= g) (hmn : m <= n) (hf : f < 4294967296) :
 Calls Tryz.prog 137 #[.slice (some ⟨g, off, none⟩) n c, .slice A m d, .int .u32 f] w fun e w' => ∃ zs' cy : _, e = .returned (.int .u32 (cy : Nat)) /\ cy < 4294967296 /\ Row w' g zs' /\ Ok zs' /\ Same zs zs' off (off + m) ∧
  wv zs' off m + 4294967296 ^ m * cy = wv zs off m + val ys * f /\ w.grownBy w' (some g) := by
 go_enter Tryz.func137, Tryz.ntmps137
 go_wp2
 go_loopw [7, 11] (fun cv iv wr => ∃ (k cy : Nat) (zr : List Nat), k <= m /\ iv = .int .i64 k /\ cv = .int .u64 cy /\ cy < 4294967296 /\ Hid (Row wr g zr) /\ Hid (Ok zr) /\ Hid (Same zs zr off (off + k)) ∧
  Hid (wv zr off k + 4294967296 ^ k * cy = wv zs off k + val (ys.take k) * f) /\ Hid (w.grownBy wr (some g))) (fun _ iv _ => m - (intOf iv).toNat)
 case atStart => exact ⟨0, 0, zs, by omega, rfl, rfl, by omega, hr, hz, Same.refl _ _ _, by rw [Hid, List.take_zero, val_nil, Nat.zero_mul, Nat.mul_zero], World.grownBy.refl w _⟩
 case round =>
  obtain ⟨k, cy, zr, hk, rfl, rfl, hcy, Hrow, Hok, Hsame, Hval, Hgr⟩ := hrel
  by_cases hkn : k < m
  . have hlt : off + k < zr.length := by have := Hsame.out.1; omega
    have hc1 := Hrow.out.cell hlt
    have hf1 := Hrow.out.free (off + k)
    have ht := Hok.out.lim (off + k)
    have hy := h.ok.lim k
    have R := Lib.hid (mulp_rel hlt Hrow Hok Hsame Hval Hgr _ rfl)
    have hbd := mul_bd hy hf hcy ht
    have b1 : ((lim ys k : Nat) : Int) * (f : Int) <= 18446744065119617025 := by have := hbd.1; rw [<- Int.natCast_mul]; omega
    have b0 : 0 <= ((lim ys k : Nat) : Int) * (f : Int) := by rw [<- Int.natCast_mul]; omega
    have hbd2 := hbd.2
    clear hbd
    obtain ⟨ad, rfl, hadb, hc2⟩ := (h.grown Hgr.out (by have := hr.lt; omega) hB).cell hkn
    go_wp2_with fail
    go_quiet (fail)
    go_wp2
    rw [show Value.int .u32 ((↑cy + (↑(lim ys k) * ↑f + ↑(lim zr (off + k)))) % 4294967296) = Value.int .u32 (((cy + (lim ys k * f + lim zr (off + k))) % 4294967296 : Nat) : Int) by go_num]
    exact ⟨⟨k + 1, (cy + (lim ys k * f + lim zr (off + k))) / 4294967296, _, by omega, by go_num, by go_num, by omega, hid_drewN R.out _⟩, by simp [intOf]; omega⟩
  . have E0 := Lib.hid (sl_val h (k := k) (by omega))
    obtain rfl : k = m := by omega
    go_wp2
    go_ret
    refine ⟨zr, cy, rfl, hcy, Hrow.out, Hok.out, Hsame.out, ?_, Hgr.out⟩
    rw [<- E0.out]; exact Hval.out
theorem mulm_step {zs zs' xs ys : List Nat} {k m cy : Nat} (hlen : k + m < zs.length) (hs : Same zs zs' k (k + m)) (hv : wv zs' k m + 4294967296 ^ m * cy = wv zs k m + val ys * lim xs k)
 (hp : wv zs 0 (k + m) = val (xs.take k) * val ys) : wv (zs'.set (k + m) cy) 0 (k + 1 + m) = val (xs.take (k + 1)) * val ys := by
 have l' : k + m < zs'.length := by rw [hs.1]; exact hlen
 have e1 := wv_add (zs'.set (k + m) cy) 0 k (m + 1)
 have e2 := wv_set_end (zs := zs') (off := k) (k := m) (v := cy) l'
 have e3 : wv (zs'.set (k + m) cy) 0 k = wv zs 0 k := by rw [wv_set_past (by omega)]; exact hs.wv_past (.inl (by omega))
 have e4 := wv_add zs 0 k m
 rw [Nat.zero_add] at e1 e4
 rw [show k + 1 + m = k + (m + 1) by omega, e1, e2, e3, hv, val_take_succ, Nat.add_mul, <- hp, e4]
 rw [Nat.mul_add, Nat.mul_comm (val ys) (lim xs k), Nat.mul_assoc]
 omega
theorem mulm_rest {zs zs' : List Nat} {k m cy : Nat} (hs : Same zs zs' k (k + m)) (h0 : ∀ i, k + m <= i -> lim zs i = 0) : ∀ i, k + 1 + m <= i -> lim (zs'.set (k + m) cy) i = 0 := by
 intro i hi
 rw [lim_set_ne (by omega), hs.2 i (.inr (by omega))]
 exact h0 i (by omega)
theorem wv_zeros (m off k : Nat) : wv (List.replicate m 0) off k = 0 := by
 induction k with
 | zero => rfl
 | succ k ih => rw [wv_succ, ih, lim_zeros]; simp
theorem cell_grown {w w' : World} {g : Nat} {p : Addr} (hg : w.grownBy w' (some g)) (hp : p.block < w.heap.size) (hne : p.block ≠ g) : w'.cell? p = w.cell? p :=
 World.cell?_of_block (hg.block p.block hp (fun e => hne (by injection e)))
theorem mulMag_any (A A' : Option Addr) (n c n' c' : Nat) (xs ys : List Nat) (w : World) (h : Sl w w.heap.size A n c xs) (h' : Sl w w.heap.size A' n' c' ys) (hn : n <= 1000000) (hn' : n' <= 1000000) :
 Calls Tryz.prog 98 #[.slice A n c, .slice A' n' c'] w (RetNum (val xs * val ys) w) := by
 have hmk := make_any ((n : Int) + (n' : Int)) (n + n') (by omega) (by omega)
 have Hrow := Lib.hid (Row.made w (n + n'))
 have Hb0 := Lib.hid ((Below.refl w.heap.size w).alloc (Nat.le_refl _) (.cells (zrow (n + n')) 44))
 have Hl := Lib.hid h.len
 go_enter Tryz.func98, Tryz.ntmps98
 go_wp2
 go_loopw [15] (fun iv wr => ∃ (k : Nat) (zr : List Nat), k <= n /\ iv = .int .i64 k /\ Hid (zr.length = n + n') /\ Hid (Row wr w.heap.size zr) /\ Hid (Ok zr) ∧
  Hid (wv zr 0 (k + n') = val (xs.take k) * val ys) /\ Hid (∀ i, k + n' <= i -> lim zr i = 0) /\ Hid (Below w.heap.size w wr)) (fun iv _ => n - (intOf iv).toNat)
 case atStart => exact ⟨0, List.replicate (n + n') 0, by omega, rfl, by rw [Hid, List.length_replicate], Hrow.out, ok_zeros _, by rw [Hid, List.take_zero, val_nil, Nat.zero_mul, wv_zeros], fun i _ => lim_zeros _ _, Hb0.out⟩
 case round =>
  obtain ⟨k, zr, hk, rfl, Hlen, Hrw, Hok, Hval, Hrest, Hb⟩ := hrel
  by_cases hkn : k < n
  . have hx := h.ok.lim k
    obtain ⟨ad, rfl, hadb, hc2⟩ := (h.below Hb.out).cell hkn
    have hz := Hrw.out.lt
    have i0 : (0 : Int) <= (k : Int) := by omega
    have i1 : (k : Int) < (n : Int) := by omega
    have i2 : (k : Int) <= (k : Int) + (n' : Int) := by omega
    have i3 : (k : Int) + (n' : Int) <= ((n + n' : Nat) : Int) := by omega
    have i4 : (0 : Int) <= (k : Int) + (n' : Int) := by omega
    have i5 : (k : Int) + (n' : Int) < ((n + n' : Nat) : Int) := by omega
    have i6 : ((k : Int) + (n' : Int)).toNat = k + n' := by omega
    have hne : ¬ n + n' = k := by omega
    have hnad : ad.add k ≠ ⟨w.heap.size, k + n', none⟩ := fun e => by have := congrArg Addr.block e; rw [block_of_add] at this; simp only at this; omega
    have i7 : IntKind.i64.wrap ((k : Int) + (n' : Int)) = (k : Int) + (n' : Int) := IntWalk.i64_in _ (by omega)
    go_wp2_with fail
    go_region_held3 (fun w' => w'.cell? (ad.add k) = some (.int .u32 (lim xs k : Nat)))
     (first | exact hc2 | exact f3 | exact (World.cell?_setCell_other _ _ _ _ hnad).trans f3 | exact (World.cell?_setCell_other _ _ _ _ (Ne.symm hnad)).trans f3 | go_keep)
     (first
      | (go_at_call 137
         refine (addProduct_any w.heap.size k n' (n + n' - k) w.heap.size n' c' (lim xs k) A' zr ys wr.drew Hrw.out.drew (by rw [Hlen.out]; omega) Hok.out (by omega) (h'.below Hb.out).drew (Nat.le_refl _) (Nat.le_refl _) hx).mono ?_
         rintro e w1 ⟨zs', cy, rfl, hcy, hr1, hok1, hs1, hv1, hg1⟩
         have H1 := Lib.hid (And.intro hs1 (And.intro hv1 hok1))
         have l1 : k + n' < zs'.length := by rw [hs1.1, Hlen.out]; omega
         have f1 := hr1.cell l1
         have f2 := hr1.free (k + n')
         have f3 : w1.cell? (ad.add k) = some (.int .u32 (lim xs k : Nat)) := (cell_grown hg1 (p := ad.add k) (by rw [block_of_add]; exact Nat.lt_trans hadb hz) (by rw [block_of_add]; omega)).trans hc2
         clear hs1 hv1 hok1))
    have L1 := Hlen.out
    have R1 := mulm_step (m := n') (by omega) H1.out.1 H1.out.2.1 Hval.out
    have R2 := mulm_rest (m := n') (cy := cy) H1.out.1 Hrest.out
    have R3 := hr1.set (k + n') cy
    have R4 := below_grown Hb.out.drew hg1 (Nat.le_refl _) (by simp; omega)
    have R5 := Ok.set H1.out.2.2 (k + n') hcy
    have R6 : (zs'.set (k + n') cy).length = n + n' := by rw [List.length_set, H1.out.1.1]; exact Hlen.out
    have R := Lib.hid (And.intro R6 (And.intro R3 (And.intro R5 (And.intro R1 (And.intro R2 (R4.setCell (Nat.le_refl _) (p := ⟨w.heap.size, k + n', none⟩) (.int .u32 (cy : Nat))))))))
    clear R1 R2 R3 R4 R5 R6 L1 i3 i5 i6 i7
    go_wp2
    exact ⟨⟨k + 1, _, by omega, by go_num, R.out⟩, by simp [intOf]; omega⟩
  . obtain rfl : k = n := by omega
    have Hz := Lib.hid Hrw.out.lt
    have hsl := Hrw.out.sl (B := wr.heap.size) (n := k + n') (c := k + n') Hrw.out.lt 0 (by rw [Hlen.out]; omega) (Nat.le_refl _) (by omega) Hok.out
    rw [List.drop_zero, List.take_of_length_le (by rw [Hlen.out]; omega)] at hsl
    go_wp2_with fail
    refine (trim_any _ _ _ _ zr wr hsl).mono ?_
    rintro e w3 ⟨⟨j, hj, rfl, hnz, hv⟩, rfl⟩
    have HV := Lib.hid hv
    clear hv
    go_wp2
    go_ret
    exact ⟨_, _, _, _, rfl, hsl.to hj, hnz, by rw [HV.out, <- wv_all zr (show zr.length <= k + n' by rw [Hlen.out]; omega), Hval.out, List.take_of_length_le (by rw [Hl.out]; omega)], Hb.out⟩
end Go.Proofs.YtmncfbfepdbioaaGreatDoor
namespace Go.Proofs.YtmncfbfepdbioaaGreatDoor
open Go.RowKit
theorem sg_mul (neg neg' : Bool) (a b : Nat) : sg (neg != neg') (a * b) = sg neg a * sg neg' b := by
 cases neg <;> cases neg' <;> simp [sg, Int.mul_neg, Int.neg_mul]
theorem mul_bad1 (neg neg' : Bool) (A A' : Option Addr) (n c n' c' : Nat) (xs : List Nat) (w : World) (h : Sl w w.heap.size A n c xs) (hv : vld neg xs = false) :
 Calls Tryz.prog 44 #[.agg #[.bool neg, .slice A n c], .agg #[.bool neg', .slice A' n' c']] w (RetIE 0 1 w) := by
 go_enter Tryz.func44, Tryz.ntmps44
 go_wp2_with fail
 generalize hW : World.alloc (World.alloc (World.alloc w _) _) _ = W
 obtain ⟨hb, hz, b0, b1, b2⟩ := sum_boxes neg neg' A A' n c n' c' w W hW
 have hs := h.on hb
 clear hW
 refine (valid_any _ _ _ _ _ xs _ hs (Nat.le_refl _)).mono ?_
 rintro e w1 ⟨rfl, hb1⟩
 have b2' := b2.below hb1 (by omega)
 have k3 := b2'.c0
 have k4 := b2'.c1
 have k5 := b2'.f 0
 have k6 := b2'.f 1
 generalize hr : w.heap.size = r at *
 have HRW := Lib.hid (And.intro hb hr)
 clear hb hr
 go_wp2
 exact bodyPost_ret (v := .tuple #[.agg #[.bool false, .slice none 0 0], .int .i64 1]) (by simp [results, Tryz.results44, go_sem, k3, k4]) rfl
  ⟨none, 0, 0, [], rfl, Sl.nil _ _, Nz.nil, rfl, by rw [HRW.out.2]; exact below_ret (below_chain HRW.out.1 (by omega) hb1) (show r <= r + 1 + 1 by omega) _ _⟩
theorem mul_bad2 (neg neg' : Bool) (A A' : Option Addr) (n c n' c' : Nat) (xs ys : List Nat) (w : World) (h : Sl w w.heap.size A n c xs) (h' : Sl w w.heap.size A' n' c' ys) (hv : vld neg xs = true) (hv' : vld neg' ys = false) :
 Calls Tryz.prog 44 #[.agg #[.bool neg, .slice A n c], .agg #[.bool neg', .slice A' n' c']] w (RetIE 0 1 w) := by
 go_enter Tryz.func44, Tryz.ntmps44
 go_wp2_with fail
 generalize hW : World.alloc (World.alloc (World.alloc w _) _) _ = W
 obtain ⟨hb, hz, b0, b1, b2⟩ := sum_boxes neg neg' A A' n c n' c' w W hW
 have hs := h.on hb
 have hs' := h'.on hb
 clear hW
 refine (valid_any _ _ _ _ _ xs _ hs (Nat.le_refl _)).mono ?_
 rintro e w1 ⟨rfl, hb1⟩
 have hz1 : w.heap.size + 1 + 1 < w1.heap.size := by have := hb1.size; omega
 have b1' := b1.below hb1 (by omega)
 have b2' := b2.below hb1 (by omega)
 have q0 := b1'.c0
 have q1 := b1'.c1
 go_wp2_with fail
 refine (valid_any _ _ _ _ _ ys _ (hs'.on hb1) (Nat.le_refl _)).mono ?_
 rintro e w2 ⟨rfl, hb2⟩
 clear q0 q1
 have b2'' := b2'.below hb2 (by omega)
 have k3 := b2''.c0
 have k4 := b2''.c1
 have k5 := b2''.f 0
 have k6 := b2''.f 1
 generalize hr : w.heap.size = r at *
 have HRW := Lib.hid (And.intro hb hr)
 clear hb hr
 go_wp2
 exact bodyPost_ret (v := .tuple #[.agg #[.bool false, .slice none 0 0], .int .i64 1]) (by simp [results, Tryz.results44, go_sem, k3, k4]) rfl
  ⟨none, 0, 0, [], rfl, Sl.nil _ _, Nz.nil, rfl, by rw [HRW.out.2]; exact below_ret (below_chain (below_chain HRW.out.1 (by omega) hb1) (by omega) hb2) (show r <= r + 1 + 1 by omega) _ _⟩
theorem mul_good_tt (A A' : Option Addr) (n c n' c' : Nat) (xs ys : List Nat) (w : World) (h : Sl w w.heap.size A n c xs) (h' : Sl w w.heap.size A' n' c' ys) (hv : vld true xs = true) (hv' : vld true ys = true)  (p : Nat) (hp : val xs * val ys = p) :
 Calls Tryz.prog 44 #[.agg #[.bool true, .slice A n c], .agg #[.bool true, .slice A' n' c']] w (RetIE (fitZ (sg false p)) (fitE (sg false p)) w) := by
 have Hp := Lib.hid hp
 clear hp
 have Hg := Lib.hid (And.intro (vld_true hv) (vld_true hv'))
 have hlx := h.len
 have hly := h'.len
 have hn : n <= 1000000 := by have := Hg.out.1.1; omega
 have hn' : n' <= 1000000 := by have := Hg.out.2.1; omega
 clear hlx hly
 go_enter Tryz.func44, Tryz.ntmps44
 go_wp2_with fail
 generalize hW : World.alloc (World.alloc (World.alloc w _) _) _ = W
 obtain ⟨hb, hz, b0, b1, b2⟩ := sum_boxes true true A A' n c n' c' w W hW
 have hs := h.on hb
 have hs' := h'.on hb
 clear hW
 refine (valid_any _ _ _ _ _ xs _ hs (Nat.le_refl _)).mono ?_
 rintro e w1 ⟨rfl, hb1⟩
 have hz1 : w.heap.size + 1 + 1 < w1.heap.size := by have := hb1.size; omega
 have b0' := b0.below hb1 (by omega)
 have b1' := b1.below hb1 (by omega)
 have b2' := b2.below hb1 (by omega)
 have hs1 := hs.on hb1
 have hs1' := hs'.on hb1
 have q0 := b1'.c0
 have q1 := b1'.c1
 go_wp2_with fail
 refine (valid_any _ _ _ _ _ ys _ hs1' (Nat.le_refl _)).mono ?_
 rintro e w2 ⟨rfl, hb2⟩
 clear q0 q1
 have hz2 : w.heap.size + 1 + 1 < w2.heap.size := by have := hb2.size; omega
 have b0'' := b0'.below hb2 (by omega)
 have b1'' := b1'.below hb2 (by omega)
 have b2'' := b2'.below hb2 (by omega)
 have hs2 := hs1.on hb2
 have hs2' := hs1'.on hb2
 have k0 := b0''.c0
 have k1 := b0''.c1
 have k2 := b1''.c0
 have k3 := b1''.c1
 generalize hr : w.heap.size = r at *
 have HRW := Lib.hid (And.intro hb hr)
 clear hb hr
 have ne1 : r ≠ r + 1 + 1 := by omega
 have ne2 : r + 1 + 1 ≠ r := by omega
 go_wp2_with fail
 go_region_held3 (fun w' => w'.cell? ⟨r, 0, none⟩ = some (.bool true) /\ w'.cell? ⟨r + 1, 0, none⟩ = some (.bool true) /\ w'.cell? ⟨r, 1, none⟩ = some (.slice A n c) /\ w'.cell? ⟨r + 1, 1, none⟩ = some (.slice A' n' c'))
  (go_keep)
  (first
   | (go_at_call 97
      have L := limited_any false A1 n1 c1 xs1 w5 hs5 hx5
      rw [hv5] at L
      refine L.mono ?_
      clear L
      rintro e w6 ⟨A2, n2, c2, xs2, rfl, hs6, hx6, hv6, hb6⟩
      have f0 := e0.below hb6 (by omega)
      have f1 := e1.below hb6 (by omega)
      have f2 := e2.below hb6 (by omega)
      have j0' := f0.c0
      have j1' := f0.c1
      have j2' := f1.c1
      have j7' := f1.c0
      have j3' := f2.c0
      have j4' := f2.c1
      have j5' := f2.f 0
      have j6' := f2.f 1
      have H2 := Lib.hid (And.intro hv6 hx6)
      clear hv5 hv6 hx6)
   | (go_at_call 98
      refine (mulMag_any _ _ _ _ _ _ _ _ _ hs2.drew hs2'.drew hn hn').mono ?_
      rintro e w5 ⟨A1, n1, c1, xs1, rfl, hs5, hx5, hv5, hbd⟩
      rw [Hp.out] at hv5
      have hb5 := below_undrew hbd
      clear hbd
      have e0 := b0''.below hb5 (by omega)
      have e1 := b1''.below hb5 (by omega)
      have e2 := b2''.below hb5 (by omega)
      have hz5 := e2.lt
      have j0 := e0.c0
      have j1 := e0.c1
      have j2 := e1.c1
      have j7 := e1.c0))
 go_wp2
 exact bodyPost_ret (v := .tuple #[.agg #[.bool (decide (fitZ (sg false p) < 0)), .slice A2 n2 c2], .int .i64 (fitE (sg false p))])
  (by simp [results, Tryz.results44, go_sem, j3', j4']) rfl
  ⟨A2, n2, c2, xs2, rfl, hs6.ret f2 _ _, H2.out.2, H2.out.1, by rw [HRW.out.2]; exact below_ret (below_chain (below_chain (below_chain (below_chain HRW.out.1 (by omega) hb1) (by omega) hb2) (by omega) hb5) (by omega) hb6) (show r <= r + 1 + 1 by omega) _ _⟩
theorem mul_good_tf (A A' : Option Addr) (n c n' c' : Nat) (xs ys : List Nat) (w : World) (h : Sl w w.heap.size A n c xs) (h' : Sl w w.heap.size A' n' c' ys) (hv : vld true xs = true) (hv' : vld false ys = true)  (p : Nat) (hp : val xs * val ys = p) :
 Calls Tryz.prog 44 #[.agg #[.bool true, .slice A n c], .agg #[.bool false, .slice A' n' c']] w (RetIE (fitZ (sg true p)) (fitE (sg true p)) w) := by
 have Hp := Lib.hid hp
 clear hp
 have Hg := Lib.hid (And.intro (vld_true hv) (vld_true hv'))
 have hlx := h.len
 have hly := h'.len
 have hn : n <= 1000000 := by have := Hg.out.1.1; omega
 have hn' : n' <= 1000000 := by have := Hg.out.2.1; omega
 clear hlx hly
 go_enter Tryz.func44, Tryz.ntmps44
 go_wp2_with fail
 generalize hW : World.alloc (World.alloc (World.alloc w _) _) _ = W
 obtain ⟨hb, hz, b0, b1, b2⟩ := sum_boxes true false A A' n c n' c' w W hW
 have hs := h.on hb
 have hs' := h'.on hb
 clear hW
 refine (valid_any _ _ _ _ _ xs _ hs (Nat.le_refl _)).mono ?_
 rintro e w1 ⟨rfl, hb1⟩
 have hz1 : w.heap.size + 1 + 1 < w1.heap.size := by have := hb1.size; omega
 have b0' := b0.below hb1 (by omega)
 have b1' := b1.below hb1 (by omega)
 have b2' := b2.below hb1 (by omega)
 have hs1 := hs.on hb1
 have hs1' := hs'.on hb1
 have q0 := b1'.c0
 have q1 := b1'.c1
 go_wp2_with fail
 refine (valid_any _ _ _ _ _ ys _ hs1' (Nat.le_refl _)).mono ?_
 rintro e w2 ⟨rfl, hb2⟩
 clear q0 q1
 have hz2 : w.heap.size + 1 + 1 < w2.heap.size := by have := hb2.size; omega
 have b0'' := b0'.below hb2 (by omega)
 have b1'' := b1'.below hb2 (by omega)
 have b2'' := b2'.below hb2 (by omega)
 have hs2 := hs1.on hb2
 have hs2' := hs1'.on hb2
 have k0 := b0''.c0
 have k1 := b0''.c1
 have k2 := b1''.c0
 have k3 := b1''.c1
 generalize hr : w.heap.size = r at *
 have HRW := Lib.hid (And.intro hb hr)
 clear hb hr
 have ne1 : r ≠ r + 1 + 1 := by omega
 have ne2 : r + 1 + 1 ≠ r := by omega
 go_wp2_with fail
 go_region_held3 (fun w' => w'.cell? ⟨r, 0, none⟩ = some (.bool true) /\ w'.cell? ⟨r + 1, 0, none⟩ = some (.bool false) /\ w'.cell? ⟨r, 1, none⟩ = some (.slice A n c) /\ w'.cell? ⟨r + 1, 1, none⟩ = some (.slice A' n' c'))
  (go_keep)
  (first
   | (go_at_call 97
      have L := limited_any true A1 n1 c1 xs1 w5 hs5 hx5
      rw [hv5] at L
      refine L.mono ?_
      clear L
      rintro e w6 ⟨A2, n2, c2, xs2, rfl, hs6, hx6, hv6, hb6⟩
      have f0 := e0.below hb6 (by omega)
      have f1 := e1.below hb6 (by omega)
      have f2 := e2.below hb6 (by omega)
      have j0' := f0.c0
      have j1' := f0.c1
      have j2' := f1.c1
      have j7' := f1.c0
      have j3' := f2.c0
      have j4' := f2.c1
      have j5' := f2.f 0
      have j6' := f2.f 1
      have H2 := Lib.hid (And.intro hv6 hx6)
      clear hv5 hv6 hx6)
   | (go_at_call 98
      refine (mulMag_any _ _ _ _ _ _ _ _ _ hs2.drew hs2'.drew hn hn').mono ?_
      rintro e w5 ⟨A1, n1, c1, xs1, rfl, hs5, hx5, hv5, hbd⟩
      rw [Hp.out] at hv5
      have hb5 := below_undrew hbd
      clear hbd
      have e0 := b0''.below hb5 (by omega)
      have e1 := b1''.below hb5 (by omega)
      have e2 := b2''.below hb5 (by omega)
      have hz5 := e2.lt
      have j0 := e0.c0
      have j1 := e0.c1
      have j2 := e1.c1
      have j7 := e1.c0))
 go_wp2
 exact bodyPost_ret (v := .tuple #[.agg #[.bool (decide (fitZ (sg true p) < 0)), .slice A2 n2 c2], .int .i64 (fitE (sg true p))])
  (by simp [results, Tryz.results44, go_sem, j3', j4']) rfl
  ⟨A2, n2, c2, xs2, rfl, hs6.ret f2 _ _, H2.out.2, H2.out.1, by rw [HRW.out.2]; exact below_ret (below_chain (below_chain (below_chain (below_chain HRW.out.1 (by omega) hb1) (by omega) hb2) (by omega) hb5) (by omega) hb6) (show r <= r + 1 + 1 by omega) _ _⟩
theorem mul_good_ft (A A' : Option Addr) (n c n' c' : Nat) (xs ys : List Nat) (w : World) (h : Sl w w.heap.size A n c xs) (h' : Sl w w.heap.size A' n' c' ys) (hv : vld false xs = true) (hv' : vld true ys = true)  (p : Nat) (hp : val xs * val ys = p) :
 Calls Tryz.prog 44 #[.agg #[.bool false, .slice A n c], .agg #[.bool true, .slice A' n' c']] w (RetIE (fitZ (sg true p)) (fitE (sg true p)) w) := by
 have Hp := Lib.hid hp
 clear hp
 have Hg := Lib.hid (And.intro (vld_true hv) (vld_true hv'))
 have hlx := h.len
 have hly := h'.len
 have hn : n <= 1000000 := by have := Hg.out.1.1; omega
 have hn' : n' <= 1000000 := by have := Hg.out.2.1; omega
 clear hlx hly
 go_enter Tryz.func44, Tryz.ntmps44
 go_wp2_with fail
 generalize hW : World.alloc (World.alloc (World.alloc w _) _) _ = W
 obtain ⟨hb, hz, b0, b1, b2⟩ := sum_boxes false true A A' n c n' c' w W hW
 have hs := h.on hb
 have hs' := h'.on hb
 clear hW
 refine (valid_any _ _ _ _ _ xs _ hs (Nat.le_refl _)).mono ?_
 rintro e w1 ⟨rfl, hb1⟩
 have hz1 : w.heap.size + 1 + 1 < w1.heap.size := by have := hb1.size; omega
 have b0' := b0.below hb1 (by omega)
 have b1' := b1.below hb1 (by omega)
 have b2' := b2.below hb1 (by omega)
 have hs1 := hs.on hb1
 have hs1' := hs'.on hb1
 have q0 := b1'.c0
 have q1 := b1'.c1
 go_wp2_with fail
 refine (valid_any _ _ _ _ _ ys _ hs1' (Nat.le_refl _)).mono ?_
 rintro e w2 ⟨rfl, hb2⟩
 clear q0 q1
 have hz2 : w.heap.size + 1 + 1 < w2.heap.size := by have := hb2.size; omega
 have b0'' := b0'.below hb2 (by omega)
 have b1'' := b1'.below hb2 (by omega)
 have b2'' := b2'.below hb2 (by omega)
 have hs2 := hs1.on hb2
 have hs2' := hs1'.on hb2
 have k0 := b0''.c0
 have k1 := b0''.c1
 have k2 := b1''.c0
 have k3 := b1''.c1
 generalize hr : w.heap.size = r at *
 have HRW := Lib.hid (And.intro hb hr)
 clear hb hr
 have ne1 : r ≠ r + 1 + 1 := by omega
 have ne2 : r + 1 + 1 ≠ r := by omega
 go_wp2_with fail
 go_region_held3 (fun w' => w'.cell? ⟨r, 0, none⟩ = some (.bool false) /\ w'.cell? ⟨r + 1, 0, none⟩ = some (.bool true) /\ w'.cell? ⟨r, 1, none⟩ = some (.slice A n c) /\ w'.cell? ⟨r + 1, 1, none⟩ = some (.slice A' n' c'))
  (go_keep)
  (first
   | (go_at_call 97
      have L := limited_any true A1 n1 c1 xs1 w5 hs5 hx5
      rw [hv5] at L
      refine L.mono ?_
      clear L
      rintro e w6 ⟨A2, n2, c2, xs2, rfl, hs6, hx6, hv6, hb6⟩
      have f0 := e0.below hb6 (by omega)
      have f1 := e1.below hb6 (by omega)
      have f2 := e2.below hb6 (by omega)
      have j0' := f0.c0
      have j1' := f0.c1
      have j2' := f1.c1
      have j7' := f1.c0
      have j3' := f2.c0
      have j4' := f2.c1
      have j5' := f2.f 0
      have j6' := f2.f 1
      have H2 := Lib.hid (And.intro hv6 hx6)
      clear hv5 hv6 hx6)
   | (go_at_call 98
      refine (mulMag_any _ _ _ _ _ _ _ _ _ hs2.drew hs2'.drew hn hn').mono ?_
      rintro e w5 ⟨A1, n1, c1, xs1, rfl, hs5, hx5, hv5, hbd⟩
      rw [Hp.out] at hv5
      have hb5 := below_undrew hbd
      clear hbd
      have e0 := b0''.below hb5 (by omega)
      have e1 := b1''.below hb5 (by omega)
      have e2 := b2''.below hb5 (by omega)
      have hz5 := e2.lt
      have j0 := e0.c0
      have j1 := e0.c1
      have j2 := e1.c1
      have j7 := e1.c0))
 go_wp2
 exact bodyPost_ret (v := .tuple #[.agg #[.bool (decide (fitZ (sg true p) < 0)), .slice A2 n2 c2], .int .i64 (fitE (sg true p))])
  (by simp [results, Tryz.results44, go_sem, j3', j4']) rfl
  ⟨A2, n2, c2, xs2, rfl, hs6.ret f2 _ _, H2.out.2, H2.out.1, by rw [HRW.out.2]; exact below_ret (below_chain (below_chain (below_chain (below_chain HRW.out.1 (by omega) hb1) (by omega) hb2) (by omega) hb5) (by omega) hb6) (show r <= r + 1 + 1 by omega) _ _⟩
theorem mul_good_ff (A A' : Option Addr) (n c n' c' : Nat) (xs ys : List Nat) (w : World) (h : Sl w w.heap.size A n c xs) (h' : Sl w w.heap.size A' n' c' ys) (hv : vld false xs = true) (hv' : vld false ys = true)  (p : Nat) (hp : val xs * val ys = p) :
 Calls Tryz.prog 44 #[.agg #[.bool false, .slice A n c], .agg #[.bool false, .slice A' n' c']] w (RetIE (fitZ (sg false p)) (fitE (sg false p)) w) := by
 have Hp := Lib.hid hp
 clear hp
 have Hg := Lib.hid (And.intro (vld_true hv) (vld_true hv'))
 have hlx := h.len
 have hly := h'.len
 have hn : n <= 1000000 := by have := Hg.out.1.1; omega
 have hn' : n' <= 1000000 := by have := Hg.out.2.1; omega
 clear hlx hly
 go_enter Tryz.func44, Tryz.ntmps44
 go_wp2_with fail
 generalize hW : World.alloc (World.alloc (World.alloc w _) _) _ = W
 obtain ⟨hb, hz, b0, b1, b2⟩ := sum_boxes false false A A' n c n' c' w W hW
 have hs := h.on hb
 have hs' := h'.on hb
 clear hW
 refine (valid_any _ _ _ _ _ xs _ hs (Nat.le_refl _)).mono ?_
 rintro e w1 ⟨rfl, hb1⟩
 have hz1 : w.heap.size + 1 + 1 < w1.heap.size := by have := hb1.size; omega
 have b0' := b0.below hb1 (by omega)
 have b1' := b1.below hb1 (by omega)
 have b2' := b2.below hb1 (by omega)
 have hs1 := hs.on hb1
 have hs1' := hs'.on hb1
 have q0 := b1'.c0
 have q1 := b1'.c1
 go_wp2_with fail
 refine (valid_any _ _ _ _ _ ys _ hs1' (Nat.le_refl _)).mono ?_
 rintro e w2 ⟨rfl, hb2⟩
 clear q0 q1
 have hz2 : w.heap.size + 1 + 1 < w2.heap.size := by have := hb2.size; omega
 have b0'' := b0'.below hb2 (by omega)
 have b1'' := b1'.below hb2 (by omega)
 have b2'' := b2'.below hb2 (by omega)
 have hs2 := hs1.on hb2
 have hs2' := hs1'.on hb2
 have k0 := b0''.c0
 have k1 := b0''.c1
 have k2 := b1''.c0
 have k3 := b1''.c1
 generalize hr : w.heap.size = r at *
 have HRW := Lib.hid (And.intro hb hr)
 clear hb hr
 have ne1 : r ≠ r + 1 + 1 := by omega
 have ne2 : r + 1 + 1 ≠ r := by omega
 go_wp2_with fail
 go_region_held3 (fun w' => w'.cell? ⟨r, 0, none⟩ = some (.bool false) /\ w'.cell? ⟨r + 1, 0, none⟩ = some (.bool false) /\ w'.cell? ⟨r, 1, none⟩ = some (.slice A n c) /\ w'.cell? ⟨r + 1, 1, none⟩ = some (.slice A' n' c'))
  (go_keep)
  (first
   | (go_at_call 97
      have L := limited_any false A1 n1 c1 xs1 w5 hs5 hx5
      rw [hv5] at L
      refine L.mono ?_
      clear L
      rintro e w6 ⟨A2, n2, c2, xs2, rfl, hs6, hx6, hv6, hb6⟩
      have f0 := e0.below hb6 (by omega)
      have f1 := e1.below hb6 (by omega)
      have f2 := e2.below hb6 (by omega)
      have j0' := f0.c0
      have j1' := f0.c1
      have j2' := f1.c1
      have j7' := f1.c0
      have j3' := f2.c0
      have j4' := f2.c1
      have j5' := f2.f 0
      have j6' := f2.f 1
      have H2 := Lib.hid (And.intro hv6 hx6)
      clear hv5 hv6 hx6)
   | (go_at_call 98
      refine (mulMag_any _ _ _ _ _ _ _ _ _ hs2.drew hs2'.drew hn hn').mono ?_
      rintro e w5 ⟨A1, n1, c1, xs1, rfl, hs5, hx5, hv5, hbd⟩
      rw [Hp.out] at hv5
      have hb5 := below_undrew hbd
      clear hbd
      have e0 := b0''.below hb5 (by omega)
      have e1 := b1''.below hb5 (by omega)
      have e2 := b2''.below hb5 (by omega)
      have hz5 := e2.lt
      have j0 := e0.c0
      have j1 := e0.c1
      have j2 := e1.c1
      have j7 := e1.c0))
 go_wp2
 exact bodyPost_ret (v := .tuple #[.agg #[.bool (decide (fitZ (sg false p) < 0)), .slice A2 n2 c2], .int .i64 (fitE (sg false p))])
  (by simp [results, Tryz.results44, go_sem, j3', j4']) rfl
  ⟨A2, n2, c2, xs2, rfl, hs6.ret f2 _ _, H2.out.2, H2.out.1, by rw [HRW.out.2]; exact below_ret (below_chain (below_chain (below_chain (below_chain HRW.out.1 (by omega) hb1) (by omega) hb2) (by omega) hb5) (by omega) hb6) (show r <= r + 1 + 1 by omega) _ _⟩
theorem mul_any (neg neg' : Bool) (A A' : Option Addr) (n c n' c' : Nat) (xs ys : List Nat) (w : World) (h : Sl w w.heap.size A n c xs) (h' : Sl w w.heap.size A' n' c' ys) :
 Calls Tryz.prog 44 #[.agg #[.bool neg, .slice A n c], .agg #[.bool neg', .slice A' n' c']] w
  (RetIE (opZ (vld neg xs && vld neg' ys) (sg neg (val xs) * sg neg' (val ys))) (opE (vld neg xs && vld neg' ys) (sg neg (val xs) * sg neg' (val ys))) w) := by
 rcases hv : vld neg xs with _ | _
 . exact mul_bad1 neg neg' A A' n c n' c' xs w h hv
 . rcases hv' : vld neg' ys with _ | _
   . exact mul_bad2 neg neg' A A' n c n' c' xs ys w h h' hv hv'
   . have hs := sg_mul neg neg' (val xs) (val ys)
     rw [<- hs]
     cases neg <;> cases neg'
     . exact mul_good_ff A A' n c n' c' xs ys w h h' hv hv' _ rfl
     . exact mul_good_ft A A' n c n' c' xs ys w h h' hv hv' _ rfl
     . exact mul_good_tf A A' n c n' c' xs ys w h h' hv hv' _ rfl
     . exact mul_good_tt A A' n c n' c' xs ys w h h' hv hv' _ rfl
end Go.Proofs.YtmncfbfepdbioaaGreatDoor
