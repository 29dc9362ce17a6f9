/-
  The walk of the reference's right.
-/
import Derived.Laws.BitsAllLaws
import Derived.Test.YtalgcppogjpilaaRefLeft
import Derived.Test.YtalgcppogjpilaaShr
namespace Go.Proofs.Ytalgcppogjpilaa
open Go.RowKit

/-- Without the zeros at its end. -/
theorem trim_len (xs : List Nat) : ∀ n, n ≤ xs.length → ∃ k, k ≤ n ∧ Nz (xs.take k) ∧ val (xs.take k) = val (xs.take n) := by
  intro n
  induction n with
  | zero => exact fun _ => ⟨0, Nat.le_refl _, by simp [Nz], rfl⟩
  | succ n ih =>
    intro hn
    by_cases h0 : lim xs n = 0
    · obtain ⟨k, h1, h2, h3⟩ := ih (by omega)
      exact ⟨k, by omega, h2, by rw [h3, val_drop_last xs n h0]⟩
    · exact ⟨n + 1, Nat.le_refl _, nz_take (.inr ⟨hn, by simpa using h0⟩), rfl⟩

theorem rtrim_at (A : Option Addr) (n c B k : Nat) (xs : List Nat) (w : World) (h : Sl w B A n c xs) (hk : k ≤ n) (nz : Nz (xs.take k)) (hv : val (xs.take k) = val xs) :
    Calls Try.prog 53 #[.slice A n c] w fun e w' => e = .returned (.slice A k c) ∧ w' = w := by
  refine (rtrim_any A n c B xs w h).mono ?_
  rintro e w' ⟨⟨j, hj, rfl, nj, vj⟩, rfl⟩
  have e1 := uniq (h.ok.take j) (h.ok.take k) nj nz (vj.trans hv.symm)
  have e2 := congrArg List.length e1
  rw [List.length_take, List.length_take, h.len] at e2
  have e3 : j = k := by omega
  subst e3
  exact ⟨rfl, rfl⟩

theorem take_ne0 (xs : List Nat) (k : Nat) : val (xs.take (k + 1)) ≠ 0 ↔ val (xs.take k) ≠ 0 ∨ lim xs k ≠ 0 := by
  rw [val_take_succ]
  have p := pow_pos' k
  constructor
  · intro h
    by_cases h1 : val (xs.take k) = 0
    · right
      intro h2
      rw [h1, h2] at h
      simp at h
    · exact .inl h1
  · rintro (h | h)
    · omega
    · have := Nat.mul_pos p (Nat.pos_of_ne_zero h)
      omega

theorem lost_step_f (xs : List Nat) (k : Nat) (h : ¬ val (xs.take k) ≠ 0) : ((lim xs k : Int) != 0) = decide (val (xs.take (k + 1)) ≠ 0) := by
  have e := take_ne0 xs k
  by_cases h1 : lim xs k = 0
  · rw [decide_eq_false (fun h2 => (e.1 h2).elim h (fun h3 => h3 h1)), h1]; rfl
  · rw [decide_eq_true (e.2 (.inr h1)), bne_iff_ne]; omega
theorem lost_step_t (xs : List Nat) (k : Nat) (h : val (xs.take k) ≠ 0) : true = decide (val (xs.take (k + 1)) ≠ 0) :=
  (decide_eq_true ((take_ne0 xs k).2 (.inl h))).symm

/-- What a shift to the right loses. -/
theorem lost_iff {xs : List Nat} {s l t : Nat} (hx : Ok xs) (hl : l < xs.length) (ht : t < 32) (hs : s = 32 * l + t) : val xs % 2 ^ s ≠ 0 ↔ val (xs.take l) ≠ 0 ∨ lim xs l % 2 ^ t ≠ 0 := by
  have e1 : (2 : Nat) ^ s = 4294967296 ^ l * 2 ^ t := by rw [hs, Nat.pow_add, Nat.pow_mul]
  have hd := val_drop xs l hl
  have hlt := val_lt (hx.take l)
  rw [List.length_take, Nat.min_eq_left (by omega)] at hlt
  have p := pow_pos' l
  have m1 : val xs % 4294967296 ^ l = val (xs.take l) := by
    rw [val_take_drop xs l (by omega), Nat.add_mul_mod_self_left, Nat.mod_eq_of_lt hlt]
  have d1 : val xs / 4294967296 ^ l = val (xs.drop l) := by
    rw [val_take_drop xs l (by omega), Nat.add_mul_div_left _ _ p, Nat.div_eq_of_lt hlt, Nat.zero_add]
  have m2 : val (xs.drop l) % 2 ^ t = lim xs l % 2 ^ t := by
    rw [hd, show (4294967296 : Nat) = 2 ^ t * 2 ^ (32 - t) by rw [← Nat.pow_add, show t + (32 - t) = 32 by omega], Nat.mul_assoc, Nat.add_mul_mod_self_left]
  rw [e1, Nat.mod_mul, m1, d1, m2]
  constructor
  · intro h
    by_cases h1 : val (xs.take l) = 0
    · right
      intro h2
      rw [h1, h2] at h
      simp at h
    · exact .inl h1
  · rintro (h | h)
    · omega
    · have := Nat.mul_pos p (Nat.pos_of_ne_zero h)
      omega

/-- A magnitude and whether something was lost. -/
def RetNumB (N : Nat) (b : Bool) (w : World) (e : Ending) (w' : World) : Prop := ∃ A n c xs, e = .returned (.tuple #[.slice A n c, .bool b]) ∧ Sl w' w'.heap.size A n c xs ∧ Nz xs ∧ val xs = N ∧ Below w.heap.size w w'

set_option maxHeartbeats 2000000 in
theorem rright_far (A : Option Addr) (n c s l : Nat) (xs : List Nat) (w : World) (h : Sl w w.heap.size A n c xs) (hx : Nz xs) (hs : s ≤ 1000000) (hl : (s : Int) / 32 = (l : Int)) (hln : n ≤ l) :
    Calls Try.prog 79 #[.slice A n c, .int .i64 (s : Int)] w (RetNumB (val xs / 2 ^ s) (decide (val xs % 2 ^ s ≠ 0)) w) := by
  have hlt : val xs < 2 ^ s := by
    refine Nat.lt_of_lt_of_le (val_lt h.ok) ?_
    rw [show (4294967296 : Nat) = 2 ^ 32 by decide, ← Nat.pow_mul, h.len]
    exact Nat.pow_le_pow_right (by decide) (by omega)
  rw [Nat.div_eq_of_lt hlt, Nat.mod_eq_of_lt hlt]
  have Hd : Hid (decide (val xs ≠ 0) = decide (0 < (n : Int))) := by
    rw [Hid, decide_eq_decide]
    constructor
    · intro h1
      rcases Nat.eq_zero_or_pos n with e | e
      · have : xs = [] := List.eq_nil_of_length_eq_zero (by rw [h.len]; exact e)
        rw [this] at h1; exact absurd val_nil h1
      · omega
    · intro h1 h2
      have := val_zero hx h2
      rw [this] at h
      have := h.len
      simp at this; omega
  clear hlt
  have hcap := h.cap
  have hcr := h.capr
  by_cases h0 : n = 0
  · subst h0
    have Hd' : Hid (decide (val xs ≠ 0) = false) := Hd.out
    rw [Hd'.out]
    clear Hd Hd'
    go_enter Try.func79, Try.ntmps79
    go_wp2
    go_ret2
    exact ⟨none, 0, 0, [], rfl, Sl.nil _ _, Nz.nil, rfl, Below.refl _ _⟩
  · have hp : decide (0 < (n : Int)) = true := by rw [decide_eq_true_iff]; omega
    rw [Hd.out, hp]
    clear Hd
    have hp2 : 0 < n := by omega
    have hp3 : 0 < (n : Int) := by omega
    go_enter Try.func79, Try.ntmps79
    go_wp2
    go_ret2
    exact ⟨none, 0, 0, [], rfl, Sl.nil _ _, Nz.nil, rfl, Below.refl _ _⟩

theorem fresh_below' (w : World) (o : Obj) : Below w.heap.size w (w.alloc o) := (Below.refl _ _).alloc (Nat.le_refl _) _
theorem right_rel {w wr : World} {zr xs : List Nat} {g k m l t : Nat} (hx : Ok xs) (ht : t ≤ 32) (hkm : k < m) (Hlen : Hid (zr.length = m)) (Hrw : Hid (Row wr g zr)) (Hok : Hid (Ok zr))
    (Hdone : Hid (∀ i, i < k → lim zr i = val (xs.drop l) / 2 ^ t / 4294967296 ^ i % 4294967296)) (Hb : Hid (Below g w wr)) (X : Nat) (hX : X = lim xs (l + k) + 4294967296 * lim xs (l + k + 1)) :
    Hid ((zr.set k (X / 2 ^ t % 4294967296)).length = m) ∧ Hid (Row (wr.setCell ⟨g, k, none⟩ (.int .u32 ((X / 2 ^ t % 4294967296 : Nat) : Int))) g (zr.set k (X / 2 ^ t % 4294967296))) ∧ Hid (Ok (zr.set k (X / 2 ^ t % 4294967296))) ∧
    Hid (∀ i, i < k + 1 → lim (zr.set k (X / 2 ^ t % 4294967296)) i = val (xs.drop l) / 2 ^ t / 4294967296 ^ i % 4294967296) ∧
    Hid (Below g w (wr.setCell ⟨g, k, none⟩ (.int .u32 ((X / 2 ^ t % 4294967296 : Nat) : Int)))) := by
  refine ⟨by rw [Hid, List.length_set, Hlen.out], Hrw.out.set _ _, Hok.out.set _ (Nat.mod_lt _ (by decide)), fun i hi => ?_, Hb.out.setCell (Nat.le_refl _) _⟩
  by_cases hik : i = k
  · subst hik
    rw [lim_set_eq (by rw [Hlen.out]; exact hkm), hX, ← lim_drop, Nat.add_assoc, ← lim_drop, lim_digit (hx.drop l) i, lim_digit (hx.drop l) (i + 1)]
    exact shr_limb _ _ _ ht
  · rw [lim_set_ne (by omega)]; exact Hdone.out i (by omega)

set_option maxRecDepth 20000 in
set_option maxHeartbeats 4000000 in
theorem rright_near (A : Option Addr) (n c s l t : Nat) (xs : List Nat) (w : World) (h : Sl w w.heap.size A n c xs) (hs : s ≤ 1000000) (hn : n ≤ 1000000) (hl : (s : Int) / 32 = (l : Int)) (ht : (s : Int) % 32 = (t : Int)) (hln : l < n) (b : Bool) (hb : decide (val xs % 2 ^ s ≠ 0) = b) :
    Calls Try.prog 79 #[.slice A n c, .int .i64 (s : Int)] w (RetNumB (val xs / 2 ^ s) b w) := by
  have hcap := h.cap
  have hcr := h.capr
  have Hst := Lib.hid (show s = 32 * l + t ∧ t < 32 by omega)
  have Hlost := Lib.hid (lost_iff h.ok (by rw [h.len]; exact hln) Hst.out.2 Hst.out.1)
  have HBL := Lib.hid hb
  clear hb
  have Hend := Lib.hid (fun zr hlen hdig => shr_end (s := s) (l := l) (t := t) (zr := zr) h.ok (by rw [h.len]; exact hln) Hst.out.1 hlen hdig)
  rw [h.len] at Hend
  obtain ⟨m, hm⟩ : ∃ m, m + l = n := ⟨n - l, by omega⟩
  have hm1 : (n : Int) - (l : Int) = (m : Int) := by omega
  rw [show n - l = m by omega] at Hend
  have hmk := make_any (m : Int) m rfl (by omega)
  have Hl := Lib.hid h.len
  have Hm := Lib.hid hm
  clear hm
  go_enter Try.func79, Try.ntmps79
  go_wp2
  go_loop [6, 7] (fun bv iv => ∃ (k : Nat) (q : Bool), k ≤ l ∧ iv = .int .i64 k ∧ bv = .bool q ∧ Hid (q = decide (val (xs.take k) ≠ 0))) (fun _ iv => l - (intOf iv).toNat)
  case atStart => exact ⟨0, false, by omega, rfl, rfl, by rw [Hid, List.take_zero, val_nil]; rfl⟩
  case round =>
    obtain ⟨k, q, hk, rfl, rfl, Hq⟩ := hrel
    by_cases hkl : k < l
    · have j1 : (k : Int) < (l : Int) := by omega
      obtain ⟨ad, rfl, hadb, hc1⟩ := h.cell (k := k) (by omega)
      cases q
      · have H0 := Lib.hid (lost_step_f xs k (of_decide_eq_false Hq.out.symm))
        go_wp2
        go_round
        case rel => exact ⟨k + 1, _, by omega, by go_num, rfl, H0.out⟩
        case measure => simp [intOf]; omega
      · have H0 := Lib.hid (lost_step_t xs k (of_decide_eq_true Hq.out.symm))
        go_wp2
        go_round
        case rel => exact ⟨k + 1, _, by omega, by go_num, rfl, H0.out⟩
        case measure => simp [intOf]; omega
    · obtain rfl : k = l := by omega
      have Hb0 := Lib.hid (fresh_below' w (.cells (zrow m) 51))
      have Hr0 := Lib.hid (Row.made w m)
      go_wp2
      go_loopw [9, 10] (fun iv _ wr => ∃ (i : Nat) (zr : List Nat), i ≤ m ∧ iv = .int .i64 i ∧ Hid (zr.length = m) ∧ Hid (Row wr w.heap.size zr) ∧ Hid (Ok zr) ∧
        Hid (∀ j, j < i → lim zr j = val (xs.drop k) / 2 ^ t / 4294967296 ^ j % 4294967296) ∧ Hid (Below w.heap.size w wr)) (fun iv _ _ => m - (intOf iv).toNat)
      case atStart => exact ⟨0, _, by omega, rfl, List.length_replicate, Hr0.out, ok_zeros _, fun j hj => absurd hj (by omega), Hb0.out⟩
      case round =>
        obtain ⟨i, zr, hi, rfl, Hlen, Hrw, Hok, Hdone, Hb⟩ := hrel
        by_cases him : i < m
        · obtain ⟨p, hp⟩ : ∃ p, p = k + i := ⟨_, rfl⟩
          have hpn : p < n := by have := Hm.out; omega
          have j1 : (i : Int) + (k : Int) = (p : Int) := by omega
          have j2 : (p : Int) < (n : Int) := by omega
          have j3 : (i : Int) < (m : Int) := by omega
          have hc1 := Hrw.out.cell (i := i) (by rw [Hlen.out]; exact him)
          have hf1 := Hrw.out.free i
          have x1 := h.ok.lim p
          have x2 := h.ok.lim (p + 1)
          obtain ⟨ad, rfl, hadb, hc2⟩ := (h.below Hb.out).cell (k := p) hpn
          have HP := Lib.hid hp
          by_cases hp1 : p + 1 < n
          · obtain ⟨p2, hp2⟩ : ∃ p2, p2 = p + 1 := ⟨_, rfl⟩
            obtain ⟨ad', e', _, hc3⟩ := (h.below Hb.out).cell (k := p2) (by omega)
            injection e' with e'
            subst e'
            have R := Lib.hid (right_rel (l := k) (g := w.heap.size) h.ok (show t ≤ 32 by have := Hst.out.2; omega) him Hlen Hrw Hok Hdone Hb (lim xs p + 4294967296 * lim xs p2) (by rw [hp2, hp]))
            have j4 : (p : Int) + 1 = (p2 : Int) := by omega
            have j5 : (p2 : Int) < (n : Int) := by omega
            rw [← hp2] at x2
            clear hp hp2
            go_wp2
            rw [show ((lim xs p : Int) + ↑(lim xs p2) * 4294967296) = ((lim xs p + 4294967296 * lim xs p2 : Nat) : Int) by omega, shr_cast]
            exact ⟨⟨i + 1, _, by omega, by go_num, R.out⟩, by simp [intOf]; omega⟩
          · have Z := Lib.hid (lim_past (xs := xs) (k := p + 1) (by rw [Hl.out]; omega))
            have R := Lib.hid (right_rel (l := k) (g := w.heap.size) h.ok (show t ≤ 32 by have := Hst.out.2; omega) him Hlen Hrw Hok Hdone Hb (lim xs p) (by rw [← hp, Z.out]; omega))
            clear hp
            have j4 : (n : Int) ≤ (p : Int) + 1 := by omega
            go_wp2
            rw [shr_cast]
            exact ⟨⟨i + 1, _, by omega, by go_num, R.out⟩, by simp [intOf]; omega⟩
        · obtain rfl : i = m := by omega
          have hz := Hrw.out.lt
          have hsz := Hrw.out.sl (B := wr.heap.size) (n := i) (c := i) hz 0 (by rw [Hlen.out]; omega) (Nat.le_refl _) (by omega) Hok.out
          rw [List.drop_zero, List.take_of_length_le (by rw [Hlen.out]; omega)] at hsz
          have He := Lib.hid (Hend.out zr Hlen.out Hdone.out)
          obtain ⟨ad, rfl, hadb, hc1⟩ := (h.below Hb.out).cell (k := k) hln
          have xk := h.ok.lim k
          have j7 := shl_cast 1 t (by omega) Hst.out.2
          obtain ⟨j, hj, hnz, hv⟩ := trim_len zr i (by rw [Hlen.out]; exact Nat.le_refl _)
          rw [List.take_of_length_le (i := i) (by rw [Hlen.out]; exact Nat.le_refl _)] at hv
          have HV := Lib.hid hv
          clear hv j7
          obtain ⟨M, hM⟩ : ∃ M, M = 2 ^ t - 1 := ⟨_, rfl⟩
          have hpw : 2 ^ t ≤ 2 ^ 31 := Nat.pow_le_pow_right (by decide) (by have := Hst.out.2; omega)
          have hpw0 : 0 < 2 ^ t := Nat.pow_pos (by decide)
          have ct : (2 ^ t : Int) = ((2 ^ t : Nat) : Int) := by rw [Int.natCast_pow]; rfl
          have jlow : IntKind.u64.wrap (IntKind.u64.wrap (2 ^ t) - 1) = (M : Int) := by
            rw [ct, IntKind.wrap_u64, IntKind.wrap_u64]; omega
          obtain ⟨r, hr⟩ : ∃ r, r = lim xs k % 2 ^ t := ⟨_, rfl⟩
          have jand : bits .and .u64 ((lim xs k : Nat) : Int) (M : Int) = (r : Int) := by
            rw [u64_and_nat (lim xs k) M (by omega) (by omega), hM, Nat.and_two_pow_sub_one_eq_mod, hr]
          have HMr := Lib.hid (And.intro hM hr)
          clear hM hpw hpw0 ct hr
          go_wp2
          clear jlow
          have hq0 := fun h => of_decide_eq_false (show decide (val (xs.take k) ≠ 0) = false from Hq.out.symm.trans h)
          have hq1 := fun h => of_decide_eq_true (show decide (val (xs.take k) ≠ 0) = true from Hq.out.symm.trans h)
          have HQ0 := Lib.hid hq0
          have HQ1 := Lib.hid hq1
          clear hq0 hq1
          cases q
          · have Hb2 : Hid (b = decide (lim xs k % 2 ^ t ≠ 0)) := by
              rw [Hid, ← HBL.out, decide_eq_decide]
              constructor
              · intro h1
                exact (Hlost.out.1 h1).elim (fun h2 => absurd h2 (HQ0.out rfl)) id
              · intro h1
                exact Hlost.out.2 (.inr h1)
            have hb9 : ((r : Int) != 0) = b := by
              rw [Hb2.out, ← HMr.out.2]
              by_cases e : r = 0
              · subst e; rfl
              · rw [decide_eq_true e, bne_iff_ne]; omega
            go_wp2_with fail
            go_quiet ((go_at_call 53; exact Calls.quiet_of_same (rtrim_at _ _ _ _ j zr _ (hsz.drewN _) hj hnz HV.out)))
            go_wp2
            go_ret2
            exact ⟨_, _, _, _, rfl, (hsz.to hj).drewN _, hnz, by rw [HV.out]; exact He.out, below_drewN Hb.out _⟩
          · have Hb2 : Hid (b = true) := by
              rw [Hid, ← HBL.out]
              exact decide_eq_true (Hlost.out.2 (.inl (HQ1.out rfl)))
            have hb2 : b = true := Hb2.out
            clear HBL Hb2
            subst hb2
            go_wp2_with fail
            go_quiet ((go_at_call 53; exact Calls.quiet_of_same (rtrim_at _ _ _ _ j zr _ (hsz.drewN _) hj hnz HV.out)))
            go_wp2
            go_ret2
            exact ⟨_, _, _, _, rfl, (hsz.to hj).drewN _, hnz, by rw [HV.out]; exact He.out, below_drewN Hb.out _⟩

/-- right, for any magnitude and any count that is not negative. -/
theorem rright_any (A : Option Addr) (n c s : Nat) (xs : List Nat) (w : World) (h : Sl w w.heap.size A n c xs) (hx : Nz xs) (hs : s ≤ 1000000) (hn : n ≤ 1000000) :
    Calls Try.prog 79 #[.slice A n c, .int .i64 (s : Int)] w (RetNumB (val xs / 2 ^ s) (decide (val xs % 2 ^ s ≠ 0)) w) := by
  by_cases hl : n ≤ s / 32
  · exact rright_far A n c s (s / 32) xs w h hx hs (by omega) hl
  · exact rright_near A n c s (s / 32) (s % 32) xs w h hs hn (by omega) (by omega) (by omega) _ rfl

end Go.Proofs.Ytalgcppogjpilaa
