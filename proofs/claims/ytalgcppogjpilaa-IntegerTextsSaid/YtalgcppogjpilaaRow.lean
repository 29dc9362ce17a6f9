/-
  A block of limbs of the call's own, which is written in place.
-/
import Derived.Lib.Hide
import Derived.BigQuiet
import Derived.Deep.QuietTactic
import Derived.Deep.DeepFit
import Derived.Laws.CopyOwn
import Derived.Deep.OwnRows
import Derived.KernelRfl
import Derived.Test.YtalgcppogjpilaaProg
import Derived.Test.YtalgcppogjpilaaMem
import Derived.Test.YtalgcppogjpilaaWin
namespace Go.Proofs.Ytalgcppogjpilaa
open Go.RowKit

theorem grown_trans {a b c : World} {row : Option Nat} (h : a.grownBy b row) (k : b.grownBy c row) : a.grownBy c row :=
  ⟨k.os.trans h.os, k.tape.trans h.tape, k.output.trans h.output, Nat.le_trans h.size k.size, fun i hi hne => (k.block i (Nat.lt_of_lt_of_le hi h.size) hne).trans (h.block i hi hne)⟩
theorem grown_drewN {a w : World} {row : Option Nat} (h : a.grownBy w row) (n : Nat) : a.grownBy (w.drewN n) row := ⟨h.os, h.tape, h.output, h.size, h.block⟩
theorem grown_drew {a w : World} {row : Option Nat} (h : a.grownBy w row) : a.grownBy w.drew row := ⟨h.os, h.tape, h.output, h.size, h.block⟩
theorem grown_alloc {a w : World} {row : Option Nat} (h : a.grownBy w row) (o : Obj) : a.grownBy (w.alloc o) row :=
  ⟨h.os, h.tape, h.output, Nat.le_trans h.size (by simp), fun i hi hne => (Below.heap_alloc w o i (Nat.lt_of_lt_of_le hi h.size)).trans (h.block i hi hne)⟩
theorem grown_set {a w : World} {g : Nat} (h : a.grownBy w (some g)) (i : Nat) (u : Value) : a.grownBy (w.setCell ⟨g, i, none⟩ u) (some g) :=
  ⟨h.os, h.tape, h.output, by simpa [World.setCell] using h.size, fun i hi hne => (Below.heap_setCell w _ u i (fun e => hne (by rw [e]))).trans (h.block i hi hne)⟩
theorem below_grown {B : Nat} {a w w' : World} {g : Nat} (h : Below B a w) (hg : w.grownBy w' (some g)) (hB : B ≤ g) (hs : B ≤ w.heap.size) : Below B a w' :=
  h.grown hg hs (fun k hk => by injection hk with hk; omega)
theorem below_drewN {B : Nat} {a w : World} (h : Below B a w) (n : Nat) : Below B a (w.drewN n) := ⟨h.os, h.tape, h.output, h.size, h.block⟩

/-- Block g holds just the limbs zs. -/
def Row (w : World) (g : Nat) (zs : List Nat) : Prop := Blk w g 51 (us zs).toArray

section
variable {w w' : World} {g B n c : Nat} {zs : List Nat}
theorem Row.lt (h : Row w g zs) : g < w.heap.size := Blk.lt h
theorem Row.cell (h : Row w g zs) {i : Nat} (hi : i < zs.length) : w.cell? ⟨g, i, none⟩ = some (.int .u32 (lim zs i : Nat)) := by
  rw [Blk.cell h i, List.getElem?_toArray, us_get zs i hi]
theorem Row.free (h : Row w g zs) (i : Nat) : w.frozen? ⟨g, i, none⟩ = false := Blk.frozen h i
theorem Row.drewN (h : Row w g zs) (n : Nat) : Row (w.drewN n) g zs := h
theorem Row.drew (h : Row w g zs) : Row w.drew g zs := h
theorem Row.alloc (h : Row w g zs) (o : Obj) : Row (w.alloc o) g zs := Blk.alloc h o
theorem Row.set (h : Row w g zs) (i : Nat) (v : Nat) : Row (w.setCell ⟨g, i, none⟩ (.int .u32 (v : Int))) g (zs.set i v) := by
  have := Blk.set_ h i (.int .u32 (v : Int))
  unfold Row
  have e : (us (zs.set i v)).toArray = (us zs).toArray.setIfInBounds i (.int .u32 (v : Int)) := by
    rw [us, List.map_set]; simp [us]
  rw [e]; exact this
theorem Row.below (h : Row w g zs) (hb : Below B w w') (hg : g < B) : Row w' g zs := Blk.below h hb hg
theorem Row.grown (h : Row w g zs) {row : Option Nat} (hb : w.grownBy w' row) (hg : some g ≠ row) : Row w' g zs := Blk.grown h hb hg
theorem Row.far (h : Row w g zs) {p : Addr} (hp : g ≠ p.block) (u : Value) : Row (w.setCell p u) g zs := Blk.far h hp u
/-- A part of the block, as a slice that is read. -/
theorem Row.sl (h : Row w g zs) (hg : g < B) (off : Nat) (hn : off + n ≤ zs.length) (hc : n ≤ c) (hr : c ≤ 35184372088832) (hz : Ok zs) : Sl w B (some ⟨g, off, none⟩) n c ((zs.drop off).take n) := by
  refine ⟨hc, by omega, by omega, (fun e => by cases e), ⟨?_, fun hp => ⟨_, rfl, hg, fun j u hu => ?_⟩⟩, (hz.drop off).take n⟩
  · rw [us_length, List.length_take, List.length_drop]; omega
  · have hj : j < ((zs.drop off).take n).length := by
      rcases Nat.lt_or_ge j ((zs.drop off).take n).length with hl | hl
      · exact hl
      · rw [List.getElem?_eq_none (by rw [us_length]; exact hl)] at hu; cases hu
    rw [us_get _ j hj] at hu
    injection hu with hu
    rw [← hu, lim_take _ _ _ (by rw [List.length_take] at hj; omega), lim_drop]
    have e : (Addr.mk g off none).add j = ⟨g, off + j, none⟩ := by unfold Addr.add; split <;> simp_all
    rw [e]
    exact h.cell (by rw [List.length_take, List.length_drop] at hj; omega)
end
theorem Sl.grown {w w' : World} {B n c : Nat} {A : Option Addr} {xs : List Nat} (h : Sl w B A n c xs) {g : Nat} (hg : w.grownBy w' (some g)) (hs : B ≤ w.heap.size) (hB : B ≤ g) : Sl w' B A n c xs :=
  ⟨h.cap, h.reach, h.capr, h.nil_, h.reads.grown hg hs (fun k hk => by injection hk with hk; omega), h.ok⟩

/-- n zeros. -/
def zrow (n : Nat) : Array Value := (us (List.replicate n 0)).toArray
theorem u32_info : (Try.prog.info? 51).map (fun i => (i.zero, i.size, i.bytes)) = some (some (.int .u32 0), 1, 4) := by kernel_rfl
theorem u32_size : (Try.prog.info? 51).map (·.size) = some 1 := by kernel_rfl
theorem made_zrow (n : Nat) : madeCells #[.int .u32 0] n = zrow n := by
  unfold madeCells zrow us
  apply Array.ext
  · simp
  · intro i h1 h2
    simp [Nat.mod_one]
theorem make_any (L : Int) (n : Nat) (hL : L = n) (hn : n ≤ 35184372088832) (W : World) :
    (Instr.makeSlice 22 (.int .i64 L) (.int .i64 L)).run Try.prog W = .ok (.slice (some ⟨W.heap.size, 0, none⟩) n n) (W.alloc (.cells (zrow n) 51)) := by
  rw [hL, ← made_zrow]
  exact run_make_row' 22 51 (.int .u32 0) 4 Try.underlying22 u32_info rfl _ _ n (by omega) (by omega) W
theorem Row.made (W : World) (n : Nat) : Row (W.alloc (.cells (zrow n) 51)) W.heap.size (List.replicate n 0) := Blk.new W _ _
theorem ok_zeros (n : Nat) : Ok (List.replicate n 0) := by intro x hx; rw [List.mem_replicate] at hx; omega
theorem lim_zeros (n k : Nat) : lim (List.replicate n 0) k = 0 := by
  rw [lim_eq, List.getElem?_replicate]; split <;> rfl

/-- zs, overwritten from place off on. -/
def over (zs : List Nat) (off : Nat) (ys : List Nat) : List Nat := zs.take off ++ ys ++ zs.drop (off + ys.length)
theorem over_length {zs ys : List Nat} {off : Nat} (h : off + ys.length ≤ zs.length) : (over zs off ys).length = zs.length := by
  simp only [over, List.length_append, List.length_take, List.length_drop]; omega
theorem over_all {zs ys : List Nat} (h : ys.length = zs.length) : over zs 0 ys = ys := by
  simp [over, h]
theorem lim_over {zs ys : List Nat} {off i : Nat} (h : off + ys.length ≤ zs.length) : lim (over zs off ys) i = if off ≤ i ∧ i < off + ys.length then lim ys (i - off) else lim zs i := by
  have hl : (zs.take off).length = off := by rw [List.length_take]; omega
  rw [over, lim_eq, List.append_assoc, List.getElem?_append, hl]
  by_cases h1 : i < off
  · rw [if_pos h1, if_neg (by omega), lim_eq, List.getElem?_take, if_pos h1]
  · rw [if_neg h1, List.getElem?_append]
    by_cases h2 : i - off < ys.length
    · rw [if_pos h2, if_pos (by omega), lim_eq]
    · rw [if_neg h2, if_neg (by omega), lim_eq, List.getElem?_drop]
      congr 2
      omega
theorem Ok.over {zs ys : List Nat} (hz : Ok zs) (hy : Ok ys) (off : Nat) : Ok (over zs off ys) := ((hz.take off).app hy).app (hz.drop _)

theorem wv_over_zeros {xs : List Nat} {m : Nat} (h : xs.length ≤ m) : wv (over (List.replicate m 0) 0 xs) 0 m = val xs := by
  rw [← wv_all xs h]
  refine wv_congr fun i _ => ?_
  rw [lim_over (by rw [List.length_replicate]; omega)]
  simp only [Nat.zero_add, Nat.sub_zero]
  by_cases hi : i < xs.length
  · rw [if_pos ⟨by omega, hi⟩]
  · rw [if_neg (by omega), lim_zeros, lim_past (by omega)]

/-- The built-in copy into a block of the call's own. -/
theorem copy_us {w : World} {ops : Array Oper} {rest : List Oper} {o : Oper} {a : Act} {Q : Exit → Act → World → Prop} (hgd : o.guard = none) (d s : Operand)
    (ho : o.op = .call { callee := .builtin .copy, args := #[d, s], argTypes := #[22, 22] }) (g off dLen dCap n c B : Nat) (A : Option Addr) (xs zs : List Nat)
    (hd : a.eval d = .slice (some ⟨g, off, none⟩) dLen dCap) (hs : a.eval s = .slice A n c) (hr : Row w g zs) (hx : Sl w B A n c xs) (hfit : off + dLen ≤ zs.length)
    (h : ∀ w', Row w' g (Go.Proofs.Ytalgcppogjpilaa.over zs off (xs.take dLen)) → Below g w w' → wpList Try.prog ops Q rest (a.put o.dst (goInt (us (xs.take dLen)).length)) w') :
    wpList Try.prog ops Q (o :: rest) a w := by
  refine wpList_copy_splice hgd d s 22 22 ho 51 Try.underlying22 u32_size _ _ dLen dCap n c hd hs g off (us zs) 51 hr (us (xs.take dLen)) ?_ ?_ ?_ ?_ g w (Below.refl _ _) (Nat.le_refl _) ?_
  · rw [us_length, List.length_take, hx.len]; exact Nat.min_comm _ _
  · intro hp
    refine ⟨rfl, ?_⟩
    rw [us_length, List.length_take, hx.len] at hp
    obtain ⟨ad, e, _, hc⟩ := hx.reads.2 (by omega)
    refine ⟨ad, e, fun j v hj => hc j v ?_⟩
    rw [us, List.map_take, List.getElem?_take] at hj
    split at hj
    · exact hj
    · cases hj
  · rw [us_length, us_length, List.length_take]; omega
  · intro v hv
    simp only [us, List.mem_map] at hv
    obtain ⟨x, _, rfl⟩ := hv
    rfl
  · intro w' hw hb
    refine h w' ?_ hb
    have := hw.out
    unfold Row Blk
    rw [this]
    simp [splice, Go.Proofs.Ytalgcppogjpilaa.over, us, List.map_append, List.map_take, List.map_drop]

theorem Sl.on {w w' : World} {n c : Nat} {A : Option Addr} {xs : List Nat} (h : Sl w w.heap.size A n c xs) (hb : Below w.heap.size w w') : Sl w' w'.heap.size A n c xs := (h.below hb).more hb.size
theorem below_undrew {W w1 : World} (h : Below W.drew.heap.size W.drew w1) : Below W.heap.size W w1 := ⟨h.os, h.tape, h.output, h.size, h.block⟩
theorem below_undrewN {W w1 : World} {k : Nat} (h : Below (W.drewN k).heap.size (W.drewN k) w1) : Below W.heap.size W w1 := ⟨h.os, h.tape, h.output, h.size, h.block⟩
theorem below_chain {B : Nat} {a b c : World} (h : Below B a b) (hs : B ≤ b.heap.size) (k : Below b.heap.size b c) : Below B a c := h.trans (k.mono hs)

/-- What a function of magnitudes hands back: a trimmed number of value N, in memory that was there or is new; nothing that was there has changed. -/
def RetNum (N : Nat) (w : World) (e : Ending) (w' : World) : Prop := ∃ A n c xs, e = .returned (.slice A n c) ∧ Sl w' w'.heap.size A n c xs ∧ Nz xs ∧ val xs = N ∧ Below w.heap.size w w'

/-- A number with its sign. -/
def sg (neg : Bool) (v : Nat) : Int := if neg then -(v : Int) else (v : Int)
/-- The first magnitude that is too big. -/
def BIG : Nat := 4294967296 ^ 128
/-- What the limit makes of a result: the number, or 0 and the error 2. -/
def fitZ (z : Int) : Int := if z.natAbs < BIG then z else 0
def fitE (z : Int) : Int := if z.natAbs < BIG then 0 else 2
theorem fit_yes {z : Int} (h : z.natAbs < BIG) : fitZ z = z ∧ fitE z = 0 := ⟨if_pos h, if_pos h⟩
theorem fit_no {z : Int} (h : ¬ z.natAbs < BIG) : fitZ z = 0 ∧ fitE z = 2 := ⟨if_neg h, if_neg h⟩
theorem sg_abs (neg : Bool) (v : Nat) : (sg neg v).natAbs = v := by unfold sg; split <;> omega
theorem big_iff {xs : List Nat} (hx : Ok xs) (nx : Nz xs) : val xs < BIG ↔ xs.length ≤ 128 := by
  constructor
  · intro h; exact length_le nx h
  · intro h; exact Nat.lt_of_lt_of_le (val_lt hx) (Nat.pow_le_pow_right (by decide) h)

/-- A struct of the program's integers in a block of its own. -/
def Bx (w : World) (r : Nat) (neg : Bool) (A : Option Addr) (n c : Nat) : Prop := Blk w r 24 #[.bool neg, .slice A n c]
section
variable {w w' : World} {r : Nat} {neg : Bool} {A : Option Addr} {n c : Nat}
theorem Bx.new (w : World) (neg : Bool) (A : Option Addr) (n c : Nat) : Bx (w.alloc (.cells #[.bool neg, .slice A n c] 24)) w.heap.size neg A n c := Blk.new w _ _
theorem Bx.c0 (h : Bx w r neg A n c) : w.cell? ⟨r, 0, none⟩ = some (.bool neg) := by rw [Blk.cell h 0]; rfl
theorem Bx.c1 (h : Bx w r neg A n c) : w.cell? ⟨r, 1, none⟩ = some (.slice A n c) := by rw [Blk.cell h 1]; rfl
theorem Bx.f (h : Bx w r neg A n c) (i : Nat) : w.frozen? ⟨r, i, none⟩ = false := Blk.frozen h i
theorem Bx.below {B : Nat} (h : Bx w r neg A n c) (hb : Below B w w') (hr : r < B) : Bx w' r neg A n c := Blk.below h hb hr
theorem Bx.alloc (h : Bx w r neg A n c) (o : Obj) : Bx (w.alloc o) r neg A n c := Blk.alloc h o
theorem Bx.drew (h : Bx w r neg A n c) : Bx w.drew r neg A n c := h
theorem Bx.drewN (h : Bx w r neg A n c) (k : Nat) : Bx (w.drewN k) r neg A n c := h
theorem Bx.lt (h : Bx w r neg A n c) : r < w.heap.size := Blk.lt h
end
/-- A store to a cell that holds no limb leaves what the slice reads. -/
theorem Sl.other {w : World} {B n c : Nat} {A : Option Addr} {xs : List Nat} (h : Sl w B A n c xs) {p : Addr} {u0 : Value} (hp : w.cell? p = some u0) (hne : ∀ x, u0 ≠ .int .u32 x) (u : Value) : Sl (w.setCell p u) B A n c xs := by
  refine ⟨h.cap, h.reach, h.capr, h.nil_, ⟨h.reads.1, fun hn => ?_⟩, h.ok⟩
  obtain ⟨ad, e, hb, hc⟩ := h.reads.2 hn
  refine ⟨ad, e, hb, fun j v hj => ?_⟩
  have := hc j v hj
  rw [World.cell?_setCell_other w p _ u (fun e => ?_)]
  · exact this
  · rw [← e, hp] at this
    injection this with this
    rw [us, List.getElem?_map] at hj
    rcases hx : xs[j]? with _ | x
    · rw [hx] at hj; cases hj
    · rw [hx] at hj
      injection hj with hj
      exact hne _ (this.trans hj.symm)
/-- The result cell of an integer is written. -/
theorem Sl.ret {w : World} {n c r n0 c0 : Nat} {neg : Bool} {A A0 : Option Addr} {xs : List Nat} (h : Sl w w.heap.size A n c xs) (hr : Bx w r neg A0 n0 c0) (b : Bool) (v : Value) :
    Sl ((w.setCell ⟨r, 0, none⟩ (.bool b)).setCell ⟨r, 1, none⟩ v) ((w.setCell ⟨r, 0, none⟩ (.bool b)).setCell ⟨r, 1, none⟩ v).heap.size A n c xs := by
  have h1 := h.other hr.c0 (fun x e => by cases e) (.bool b)
  have c1 : (w.setCell ⟨r, 0, none⟩ (.bool b)).cell? ⟨r, 1, none⟩ = some (.slice A0 n0 c0) := by
    rw [World.cell?_setCell_other _ _ _ _ (by intro e; cases e)]; exact hr.c1
  exact (h1.other c1 (fun x e => by cases e) v).more (by simp [World.setCell])
theorem below_ret {B : Nat} {a w : World} (h : Below B a w) {r : Nat} (hr : B ≤ r) (u v : Value) : Below B a ((w.setCell ⟨r, 0, none⟩ u).setCell ⟨r, 1, none⟩ v) := (h.setCell hr u).setCell hr v

/-- What a function hands back: an integer z, beside the error number er. -/
def RetI (z : Int) (w : World) (e : Ending) (w' : World) : Prop := ∃ A n c xs, e = .returned (.agg #[.bool (decide (z < 0)), .slice A n c]) ∧ Sl w' w'.heap.size A n c xs ∧ Nz xs ∧ val xs = z.natAbs ∧ Below w.heap.size w w'
def RetIE (z er : Int) (w : World) (e : Ending) (w' : World) : Prop := ∃ A n c xs, e = .returned (.tuple #[.agg #[.bool (decide (z < 0)), .slice A n c], .int .i64 er]) ∧ Sl w' w'.heap.size A n c xs ∧ Nz xs ∧ val xs = z.natAbs ∧ Below w.heap.size w w'

end Go.Proofs.Ytalgcppogjpilaa
