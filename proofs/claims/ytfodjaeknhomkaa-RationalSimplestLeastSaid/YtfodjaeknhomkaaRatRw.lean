/-
  Stage 2: the reference's integer arithmetic by values.
-/
import Derived.Test.YtfodjaeknhomkaaRatZi
import Derived.Test.YtfodjaeknhomkaaRatS
import Derived.Test.YtfodjaeknhomkaaBaseG
namespace Go.Proofs.Ytfodjaeknhomkaa
open Go.RowKit
theorem hI {p : Prop} (h : p) : Hid p := Lib.hid h
theorem bch {r : Nat} {w w1 w2 : World} (h : Below r w w1) (hr : w.heap.size = r) (hb : Below w1.heap.size w1 w2) : Below r w w2 := below_chain h (by have := h.size; omega) hb
theorem Rb.cs {w : World} {r : Nat} {q : RVal} (h : Rb w r q) : w.cell? ⟨r, 0, none⟩ = some (.bool q.g) ∧ w.cell? ⟨r, 1, none⟩ = some (.slice q.A q.n q.c) ∧ w.cell? ⟨r, 2, none⟩ = some (.bool q.gd) ∧ w.cell? ⟨r, 3, none⟩ = some (.slice q.Ad q.nd q.cd) := ⟨h.c0, h.c1, h.c2, h.c3⟩
theorem Rb.fs {w : World} {r : Nat} {q : RVal} (h : Rb w r q) : w.frozen? ⟨r, 0, none⟩ = false ∧ w.frozen? ⟨r, 1, none⟩ = false ∧ w.frozen? ⟨r, 2, none⟩ = false ∧ w.frozen? ⟨r, 3, none⟩ = false := ⟨h.f 0, h.f 1, h.f 2, h.f 3⟩
section
variable {w : World} {r n c : Nat} {g : Bool} {A : Option Addr} {xs : List Nat}
theorem Ba.cs (h : Ba w r g A n c xs) : w.cell? ⟨r, 0, none⟩ = some (.bool g) ∧ w.cell? ⟨r, 1, none⟩ = some (.slice A n c) := ⟨h.bx.c0, h.bx.c1⟩
theorem Ba.fs (h : Ba w r g A n c xs) : w.frozen? ⟨r, 0, none⟩ = false ∧ w.frozen? ⟨r, 1, none⟩ = false := ⟨h.bx.f 0, h.bx.f 1⟩
end
/-- An integer of a value is handed back beside an error number. -/
def RetZE (z er : Int) (w : World) (e : Ending) (w' : World) : Prop := ∃ g A n c xs, e = .returned (.tuple #[.agg #[.bool g, .slice A n c], .int .i64 er]) ∧ Sl w' w'.heap.size A n c xs ∧ ov g xs = some z ∧ Below w.heap.size w w'
def RetZ2 (z z2 er : Int) (w : World) (e : Ending) (w' : World) : Prop := ∃ g A n c xs g' A' n' c' ys, e = .returned (.tuple #[.agg #[.bool g, .slice A n c], .agg #[.bool g', .slice A' n' c'], .int .i64 er]) ∧ Sl w' w'.heap.size A n c xs ∧ ov g xs = some z ∧ Sl w' w'.heap.size A' n' c' ys ∧ ov g' ys = some z2 ∧ Below w.heap.size w w'
theorem RetIE.ze {z er : Int} {w : World} {e : Ending} {w' : World} (hz : z.natAbs < BIG) (h : RetIE z er w e w') : RetZE z er w e w' := by
  obtain ⟨A, n, c, xs, rfl, hs, hx, hv, hb⟩ := h
  exact ⟨_, A, n, c, xs, rfl, hs, ov_res hs.ok hx hv hz, hb⟩
theorem RetI2E.z2 {z z2 er : Int} {w : World} {e : Ending} {w' : World} (hz : z.natAbs < BIG) (hz2 : z2.natAbs < BIG) (h : RetI2E z z2 er w e w') : RetZ2 z z2 er w e w' := by
  obtain ⟨A, n, c, xs, A', n', c', ys, rfl, hs, hx, hv, hs', hx', hv', hb⟩ := h
  exact ⟨_, A, n, c, xs, _, A', n', c', ys, rfl, hs, ov_res hs.ok hx hv hz, hs', ov_res hs'.ok hx' hv' hz2, hb⟩
theorem ov_flip {w : World} {B n c : Nat} {A : Option Addr} {g : Bool} {xs : List Nat} {z : Int} (h : Sl w B A n c xs) (o : ov g xs = some z) (hz : z ≠ 0) : ov (!g) xs = some (-z) := by
  have p := ov_parts o
  have s := ov_sign o
  have k := ov_res (z := -z) h.ok p.1 (by rw [Int.natAbs_neg]; exact p.2.1) (by rw [Int.natAbs_neg]; exact ov_lt h.ok o)
  have e : decide (-z < 0) = !g := by
    rw [← s]
    by_cases hn : z < 0
    · rw [decide_eq_true hn, decide_eq_false (by omega)]; rfl
    · rw [decide_eq_false hn, decide_eq_true (by omega)]; rfl
  rwa [e] at k
theorem ov_len0 {w : World} {B n c : Nat} {A : Option Addr} {g : Bool} {xs : List Nat} {z : Int} (h : Sl w B A n c xs) (o : ov g xs = some z) : decide (n = 0) = decide (z = 0) := by
  have hp := ov_parts o
  have hl := h.len
  by_cases h0 : z = 0
  · have hx : xs = [] := by
      rcases he : xs with _ | ⟨y, ys⟩
      · rfl
      · have := val_pos hp.1 (by rw [he]; simp)
        rw [hp.2.1, h0] at this
        simp at this
    rw [hx] at hl
    simp at hl
    rw [decide_eq_true h0, decide_eq_true (by omega)]
  · have : n ≠ 0 := by
      intro e
      have : xs = [] := List.eq_nil_of_length_eq_zero (by rw [hl]; omega)
      rw [this] at hp
      have := hp.2.1
      simp [val] at this
      omega
    rw [decide_eq_false h0, decide_eq_false this]
section
variable {g g' : Bool} {A A' : Option Addr} {n c n' c' : Nat} {xs ys : List Nat} {w : World} {a b : Int}
theorem ov_vld {g : Bool} {xs : List Nat} {z : Int} (o : ov g xs = some z) : vld g xs = true ∧ sg g (val xs) = z := by
  have p := ov_parts o
  rw [ov_some p.2.2] at o
  exact ⟨p.2.2, Option.some.inj o⟩
end
end Go.Proofs.Ytfodjaeknhomkaa
