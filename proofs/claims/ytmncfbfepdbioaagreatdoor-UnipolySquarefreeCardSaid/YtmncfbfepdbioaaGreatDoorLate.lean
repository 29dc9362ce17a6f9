/-
 A region that draws its order, and whose last operations write what its first ones load: each operation has a level, and what is kept behind it is what its level says.
-/
import Derived.Deep.RegionHeld3
import Derived.KernelRfl
import Derived.Test.YtmncfbfepdbioaaGreatDoorProg
namespace Go.Proofs.YtmncfbfepdbioaaGreatDoor
open Go
section
variable {P : Program} {ops : Array Oper} {Q : Exit -> Act -> World -> Prop} {md : Region.Mode} {C : Nat -> World -> Prop} {lvl : Nat -> Nat}
def AnyL (P : Program) (md : Region.Mode) (ops : Array Oper) (Q : Exit -> Act -> World -> Prop) (C : Nat -> World -> Prop) (lvl : Nat -> Nat) : Nat -> Array Bool -> Act -> World -> Prop
 | 0, l, a, w => Region.ready md ops l = [] /\ Q .normal a w
 | k + 1, l, a, w => (Region.ready md ops l = [] -> Q .normal a w) /\ ∀ i ∈ Region.ready md ops l, wpOp P ops Q i (fun a' w' => C (lvl i) w' /\ AnyL P md ops Q C lvl k (l.setIfInBounds i true) a' w') a w
theorem anyL_weak : ∀ (k : Nat) (l : Array Bool) (a : Act) (w : World), AnyL P md ops Q C lvl k l a w -> wpAny P md ops Q k l a w
 | 0, _, _, _, h => h
 | k + 1, _, _, _, h => ⟨h.1, fun i hi => wpOp_mono (fun a' w' x => anyL_weak k _ a' w' x.2) (h.2 i hi)⟩
def keepsAll (md : Region.Mode) (ops : Array Oper) (lvl : Nat -> Nat) (l : Array Bool) (i : Nat) : Bool :=
 (List.range ops.size).all fun j => l.getD j true || j == i || decide (lvl j <= lvl i) || (match ops[j]? with | some o => o.after.any fun e => Region.binds md e && e.on == i | none => true)
theorem keepsAll_spec {l : Array Bool} {i j : Nat} {oj : Oper} (h : keepsAll md ops lvl l i = true) (hj : ops[j]? = some oj) (hne : j ≠ i) (hun : l.getD j true = false) (hnot : ∀ e ∈ oj.after, Region.binds md e = true -> e.on ≠ i) : lvl j <= lvl i := by
 have hlt : j < ops.size := (Array.getElem?_eq_some_iff.1 hj).1
 have := List.all_eq_true.1 h j (List.mem_range.2 hlt)
 rw [hun, hj] at this
 simp only [Bool.false_or, Bool.or_eq_true, beq_iff_eq, decide_eq_true_eq, Array.any_eq_true', Bool.and_eq_true] at this
 rcases this with (h1 | h1) | ⟨e, he, hb, ho⟩
 . exact absurd h1 hne
 . exact h1
 . exact absurd ho (hnot e he hb)
theorem anyL_first (hC : ∀ m n w, m <= n -> C m w -> C n w) {i : Nat} {oi : Oper} {v : Value} (hi : ops[i]? = some oi) (hsel : ∀ (j : Nat) (o : Oper) cs b, ops[j]? = some o -> o.op ≠ .select cs b) (hQ : ∀ c a w, Q (.panic c) (a.put oi.dst v) w -> Q (.panic c) a w) :
 ∀ (k : Nat) (l : Array Bool) (a : Act) (w : World), (∀ j oj, ops[j]? = some oj -> j ≠ i -> l.getD j true = false -> (∀ e ∈ oj.after, Region.binds md e = true -> e.on ≠ i) -> oi.apart ops oj = true /\ lvl j <= lvl i) →
   i ∈ Region.ready md ops l -> YieldsIf P ops (C (lvl i)) oi v a -> C (lvl i) w -> AnyL P md ops Q C lvl k (l.setIfInBounds i true) (a.put oi.dst v) w -> AnyL P md ops Q C lvl (k + 1) l a w := by
 have waits : ∀ (l : Array Bool) (j : Nat) (oj : Oper), i ∈ Region.ready md ops l -> (∀ e ∈ oj.after, Region.binds md e = true -> l.getD e.on false = true) -> ∀ e ∈ oj.after, Region.binds md e = true -> e.on ≠ i := by
  intro l j oj hr hall e he hb heq
  have h1 := hall e he hb
  have h0 := (mem_ready.1 hr).1
  rw [heq] at h1
  rcases Nat.lt_or_ge i l.size with q | q
  . simp [q] at h0 h1; rw [h0] at h1; cases h1
  . simp [Array.getElem?_eq_none q] at h1
 intro k
 induction k with
 | zero =>
   intro l a w _ hr hy hS H
   refine ⟨fun e => (by rw [e] at hr; cases hr), fun j hj => ?_⟩
   by_cases hji : j = i
   . subst hji; exact hy.wpOp hi hS ⟨hS, H⟩
   . have := ready_mono hj hji
     rw [H.1] at this
     cases this
 | succ k ih =>
   intro l a w hf hr hy hS H
   refine ⟨fun e => (by rw [e] at hr; cases hr), fun j hj => ?_⟩
   by_cases hji : j = i
   . subst hji; exact hy.wpOp hi hS ⟨hS, H⟩
   . have g := H.2 j (ready_mono hj hji)
     obtain ⟨hun, oj, hoj, hall⟩ := mem_ready.1 hj
     have f := hf j oj hoj hji hun (waits l j oj hr hall)
     have g2 := wpOp_putIf hoj f.1 (fun cs b => hsel i oi cs b hi) (fun cs b => hsel j oj cs b hoj) hQ hy g
     refine wpOp_mono (fun a' w' x => ⟨x.2.1, ih (l.setIfInBounds j true) a' w' (fun m om hm hmi hum hno => ?_) (ready_mono hr (Ne.symm hji)) x.1 (hC _ _ _ f.2 x.2.1) ?_⟩) g2
     . refine hf m om hm hmi ?_ hno
       by_cases hjm : j = m
       . subst hjm; exact hun
       . rw [getD_set_ne true hjm] at hum; exact hum
     . rw [Array.setIfInBounds_comm _ _ hji]
       exact x.2.2
theorem anyL_take (hC : ∀ m n w, m <= n -> C m w -> C n w) (i : Nat) {oi : Oper} {v : Value} {k : Nat} {l : Array Bool} {a : Act} {w : World} (hi : ops[i]? = some oi) (hs : Region.noSelect ops = true) (hf : Region.free md ops l i = true) (hk : keepsAll md ops lvl l i = true)
 (hr : (Region.ready md ops l).contains i = true) (hQ : ∀ c a w, Q (.panic c) (a.put oi.dst v) w -> Q (.panic c) a w) (hy : YieldsIf P ops (C (lvl i)) oi v a) (hS : C (lvl i) w)
 (h : AnyL P md ops Q C lvl k (l.setIfInBounds i true) (a.put oi.dst v) w) : AnyL P md ops Q C lvl (k + 1) l a w :=
 anyL_first hC hi (Region.noSelect_spec hs) hQ k l a w (fun j oj x1 x2 x3 x4 => ⟨Region.free_spec hi hf j oj x1 x2 x3 x4, keepsAll_spec hk x1 x2 x3 x4⟩) (by simpa using hr) hy hS h
theorem anyL_one (i : Nat) {o : Oper} {k : Nat} {l : Array Bool} {a : Act} {w : World} (hr : Region.ready md ops l = [i]) (ho : ops[i]? = some o)
 (h : ∀ K' : Act -> World -> Prop, Shut (∀ a w, C (lvl i) w -> AnyL P md ops Q C lvl k (l.setIfInBounds i true) a w -> K' a w) -> if Region.wanted o (yielded ops a.tmps) = true then Oper.wp P o a w K' Q else K' (a.put o.dst undef) w) : AnyL P md ops Q C lvl (k + 1) l a w := by
 refine ⟨fun e => (by rw [hr] at e; cases e), fun j hj => ?_⟩
 rw [hr] at hj
 obtain rfl := List.mem_singleton.1 hj
 exact wpOp_step ho (fun K' hK => h K' (fun a w x y => hK a w ⟨x, y⟩))
theorem anyL_done {l : Array Bool} {a : Act} {w : World} (hr : Region.ready md ops l = []) (h : Q .normal a w) : ∀ k, AnyL P md ops Q C lvl k l a w
 | 0 => ⟨hr, h⟩
 | _ + 1 => ⟨fun _ => h, by rw [hr]; simp⟩
theorem anyL_start {id : Nat} {a : Act} {w : World} (C : Nat -> World -> Prop) (lvl : Nat -> Nat) (hm : P.follows .mixedOrders = true) (h : AnyL P .any ops Q C lvl ops.size (Array.replicate ops.size false) a w.drew) : (Code.region id ops true).wp P Q a w :=
 wp_region_any hm (anyL_weak _ _ _ _ h)
end
end Go.Proofs.YtmncfbfepdbioaaGreatDoor
