/-
  Numbers as lists of limbs: the value of a list, its bounds, and that two trimmed lists of one value are equal. Plain mathematics; no program occurs.
-/
namespace Go.Proofs.Ytalgcppogjpilaa

/-- The value of limbs, the least significant first. -/
def val : List Nat → Nat
  | [] => 0
  | x :: xs => x + 4294967296 * val xs

/-- Limb number k; 0 behind the last. -/
def lim (xs : List Nat) (k : Nat) : Nat := xs.getD k 0
theorem lim_eq (xs : List Nat) (k : Nat) : lim xs k = xs[k]?.getD 0 := by rw [lim, List.getD_eq_getElem?_getD]
theorem lim_get {xs : List Nat} {k : Nat} (h : k < xs.length) : lim xs k = xs[k] := by rw [lim_eq, List.getElem?_eq_getElem h]; rfl
theorem lim_past {xs : List Nat} {k : Nat} (h : xs.length ≤ k) : lim xs k = 0 := by rw [lim_eq, List.getElem?_eq_none h]; rfl

def Ok (xs : List Nat) : Prop := ∀ x ∈ xs, x < 4294967296
/-- The last limb is not 0. -/
def Nz (xs : List Nat) : Prop := xs.getLast? ≠ some 0

theorem Ok.nil : Ok [] := by intro x h; cases h
theorem Ok.cons {x : Nat} {xs : List Nat} (h : x < 4294967296) (hs : Ok xs) : Ok (x :: xs) := by
  intro y hy
  rcases List.mem_cons.1 hy with rfl | hy
  · exact h
  · exact hs y hy
theorem Ok.head {x : Nat} {xs : List Nat} (h : Ok (x :: xs)) : x < 4294967296 := h x (by simp)
theorem Ok.tail {x : Nat} {xs : List Nat} (h : Ok (x :: xs)) : Ok xs := fun y hy => h y (by simp [hy])
theorem Ok.app {xs ys : List Nat} (h : Ok xs) (k : Ok ys) : Ok (xs ++ ys) := by
  intro x hx
  rcases List.mem_append.1 hx with hx | hx
  · exact h x hx
  · exact k x hx
theorem Ok.take {xs : List Nat} (h : Ok xs) (k : Nat) : Ok (xs.take k) := fun x hx => h x (List.mem_of_mem_take hx)
theorem Ok.drop {xs : List Nat} (h : Ok xs) (k : Nat) : Ok (xs.drop k) := fun x hx => h x (List.mem_of_mem_drop hx)
theorem Ok.lim {xs : List Nat} (h : Ok xs) (k : Nat) : Go.Proofs.Ytalgcppogjpilaa.lim xs k < 4294967296 := by
  rw [lim_eq]
  rcases Nat.lt_or_ge k xs.length with hk | hk
  · rw [List.getElem?_eq_getElem hk]; exact h _ (List.getElem_mem hk)
  · rw [List.getElem?_eq_none hk]; decide
theorem Ok.set {xs : List Nat} (h : Ok xs) (k : Nat) {v : Nat} (hv : v < 4294967296) : Ok (xs.set k v) := by
  intro x hx
  rcases List.mem_or_eq_of_mem_set hx with hx | rfl
  · exact h x hx
  · exact hv

theorem val_nil : val [] = 0 := rfl
theorem val_cons (x : Nat) (xs : List Nat) : val (x :: xs) = x + 4294967296 * val xs := rfl
theorem val_app (xs ys : List Nat) : val (xs ++ ys) = val xs + 4294967296 ^ xs.length * val ys := by
  induction xs with
  | nil => simp [val]
  | cons x xs ih =>
    simp only [List.cons_append, val, ih, List.length_cons, Nat.pow_succ]
    generalize 4294967296 ^ xs.length = p
    rw [Nat.mul_add, Nat.mul_comm p 4294967296, Nat.mul_assoc]
    omega
theorem val_snoc (xs : List Nat) (v : Nat) : val (xs ++ [v]) = val xs + 4294967296 ^ xs.length * v := by
  rw [val_app]; simp [val]
theorem val_zeros (n : Nat) : val (List.replicate n 0) = 0 := by
  induction n with
  | zero => rfl
  | succ n ih => simp [List.replicate_succ, val, ih]
theorem pow_pos' (n : Nat) : 0 < 4294967296 ^ n := Nat.pow_pos (by decide)
theorem val_lt {xs : List Nat} (h : Ok xs) : val xs < 4294967296 ^ xs.length := by
  induction xs with
  | nil => simp [val]
  | cons x xs ih =>
    have h1 := h.head
    have h2 := ih h.tail
    simp only [val, List.length_cons, Nat.pow_succ]
    omega
theorem val_take_succ (xs : List Nat) (k : Nat) : val (xs.take (k + 1)) = val (xs.take k) + 4294967296 ^ k * lim xs k := by
  rcases Nat.lt_or_ge k xs.length with hk | hk
  · rw [List.take_succ_eq_append_getElem hk, val_snoc, List.length_take, Nat.min_eq_left (by omega), lim_eq, List.getElem?_eq_getElem hk]; rfl
  · rw [List.take_of_length_le (by omega), List.take_of_length_le hk, lim_eq, List.getElem?_eq_none hk]; simp
theorem val_take_drop (xs : List Nat) (k : Nat) (hk : k ≤ xs.length) : val xs = val (xs.take k) + 4294967296 ^ k * val (xs.drop k) := by
  have h := val_app (xs.take k) (xs.drop k)
  rw [List.take_append_drop, List.length_take, Nat.min_eq_left hk] at h
  exact h
theorem val_drop (xs : List Nat) (k : Nat) (hk : k < xs.length) : val (xs.drop k) = lim xs k + 4294967296 * val (xs.drop (k + 1)) := by
  rw [List.drop_eq_getElem_cons hk, val, lim_eq, List.getElem?_eq_getElem hk]; rfl

theorem Nz.nil : Nz [] := by simp [Nz]
theorem Nz.of_cons {x : Nat} {xs : List Nat} (h : Nz (x :: xs)) : Nz xs := by
  cases xs with
  | nil => exact Nz.nil
  | cons y ys => simpa [Nz, List.getLast?_cons_cons] using h
theorem val_pos {xs : List Nat} (hn : Nz xs) (h : xs ≠ []) : 0 < val xs := by
  induction xs with
  | nil => exact absurd rfl h
  | cons x xs ih =>
    cases xs with
    | nil =>
      have : x ≠ 0 := by rintro rfl; exact hn rfl
      simp only [val]; omega
    | cons y ys =>
      have := ih hn.of_cons (by simp)
      rw [val_cons]; omega
theorem val_zero {xs : List Nat} (hn : Nz xs) (h : val xs = 0) : xs = [] := by
  rcases xs with _ | ⟨x, xs⟩
  · rfl
  · have := val_pos hn (by simp); omega
theorem val_ge {xs : List Nat} (hn : Nz xs) (h : xs ≠ []) : 4294967296 ^ (xs.length - 1) ≤ val xs := by
  induction xs with
  | nil => exact absurd rfl h
  | cons x xs ih =>
    cases xs with
    | nil =>
      have : x ≠ 0 := by rintro rfl; exact hn rfl
      simp [val]; omega
    | cons y ys =>
      have h1 := ih hn.of_cons (by simp)
      simp only [List.length_cons, Nat.add_sub_cancel] at h1 ⊢
      rw [val_cons x (y :: ys), Nat.pow_succ]; omega
theorem uniq {xs ys : List Nat} (hx : Ok xs) (hy : Ok ys) (nx : Nz xs) (ny : Nz ys) (h : val xs = val ys) : xs = ys := by
  induction xs generalizing ys with
  | nil => exact (val_zero ny (by rw [← h]; rfl)).symm
  | cons x xs ih =>
    rcases ys with _ | ⟨y, ys⟩
    · exact val_zero nx h
    · rw [val_cons, val_cons] at h
      have a := hx.head
      have b := hy.head
      have e : x = y := by omega
      have f : val xs = val ys := by omega
      rw [e, ih hx.tail hy.tail nx.of_cons ny.of_cons f]
/-- A shorter trimmed number is less. -/
theorem val_lt_of_length {xs ys : List Nat} (hx : Ok xs) (ny : Nz ys) (h : xs.length < ys.length) : val xs < val ys := by
  have a := val_lt hx
  have b := val_ge ny (by rintro rfl; simp at h)
  have c : 4294967296 ^ xs.length ≤ 4294967296 ^ (ys.length - 1) := Nat.pow_le_pow_right (by decide) (by omega)
  omega
/-- How many limbs: a number below 2^(32 n) has at most n of them. -/
theorem length_le {xs : List Nat} (nx : Nz xs) {n : Nat} (h : val xs < 4294967296 ^ n) : xs.length ≤ n := by
  rcases Nat.lt_or_ge n xs.length with hl | hl
  · have b := val_ge nx (by rintro rfl; simp at hl)
    have c : 4294967296 ^ n ≤ 4294967296 ^ (xs.length - 1) := Nat.pow_le_pow_right (by decide) (by omega)
    omega
  · exact hl
/-- A zero at the end may go. -/
theorem val_drop_last (xs : List Nat) (k : Nat) (h : lim xs k = 0) : val (xs.take (k + 1)) = val (xs.take k) := by
  rw [val_take_succ, h]; simp
theorem nz_take {xs : List Nat} {k : Nat} (h : k = 0 ∨ (k ≤ xs.length ∧ lim xs (k - 1) ≠ 0)) : Nz (xs.take k) := by
  rcases h with rfl | ⟨hk, h⟩
  · simp [Nz]
  · rcases k with _ | k
    · simp [Nz]
    · intro hl
      rw [List.take_succ_eq_append_getElem (by omega), List.getLast?_concat] at hl
      simp only [Nat.add_sub_cancel] at h
      rw [lim_eq, List.getElem?_eq_getElem (by omega)] at h
      exact h (by simpa using hl)
theorem nz_iff {xs : List Nat} (h : xs ≠ []) : Nz xs ↔ lim xs (xs.length - 1) ≠ 0 := by
  have hp : 0 < xs.length := List.length_pos_iff.2 h
  rw [Nz, List.getLast?_eq_getElem?, List.getElem?_eq_getElem (by omega), lim_eq, List.getElem?_eq_getElem (by omega)]
  simp

end Go.Proofs.Ytalgcppogjpilaa
