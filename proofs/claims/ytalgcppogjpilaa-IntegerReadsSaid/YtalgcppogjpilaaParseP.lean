/-
  The walks of decimal, smallNumber, scale and Parse.
-/
import Derived.Deep.DeepCutAuto
import Derived.Test.YtalgcppogjpilaaDecN
import Derived.Test.YtalgcppogjpilaaShelf
import Derived.Test.YtalgcppogjpilaaMag
import Derived.Test.YtalgcppogjpilaaApp
namespace Go.Proofs.Ytalgcppogjpilaa
open Go.RowKit

theorem canon_nil : canon [] = false := rfl
theorem canon_zero : canon [48] = true := by decide
theorem canon_lead {l : List UInt8} (h : l ≠ []) : canon (48 :: l) = false := by
  unfold canon
  have : ((48 :: l) == [48]) = false := by
    rw [beq_eq_false_iff_ne]
    intro e
    injection e with _ e
    exact h e
  rw [this]; simp
theorem canon_bad {l : List UInt8} {c : UInt8} (h : c ∈ l) (hc : isD c = false) : canon l = false := by
  unfold canon
  have : l.all isD = false := by
    rw [← Bool.not_eq_true, List.all_eq_true]
    intro e
    rw [e c h] at hc
    cases hc
  rw [this, Bool.and_false]
theorem canon_good {c : UInt8} {l : List UInt8} (h0 : c ≠ 48 ∨ l = []) (h : ∀ x ∈ c :: l, isD x = true) : canon (c :: l) = true := by
  unfold canon
  have : (c :: l).all isD = true := List.all_eq_true.2 h
  rw [this]
  rcases h0 with h0 | rfl
  · have e : (c == 48) = false := by rw [beq_eq_false_iff_ne]; exact h0
    simp [e]
  · simp

/-- The loop of decimal. -/
theorem take_snoc' (s : ByteArray) (k : Nat) (h : k < s.size) : s.data.toList.take (k + 1) = s.data.toList.take k ++ [s[k]] := by
  rw [List.take_succ_eq_append_getElem (by simpa using h)]; rfl

set_option maxHeartbeats 1000000 in
theorem decimal_loop (s : ByteArray) (w : World) (hs : s.size ≤ 140737488351232) (c : UInt8) (t : List UInt8) (hl : s.data.toList = c :: t) (h0 : c ≠ 48 ∨ t = []) :
    Calls Try.prog 85 #[.string s] w fun e w' => e = .returned (.bool (canon s.data.toList)) ∧ w = w' := by
  have hsz : s.size = t.length + 1 := by
    have := congrArg List.length hl
    simpa using this
  have hpos : 0 < s.size := by omega
  have hc0 : s[0] = c := by
    have : s.data.toList[0]'(by simpa using hpos) = c := by simp [hl]
    exact this
  have HC := Lib.hid (show (∀ x ∈ s.data.toList, isD x = true) → canon s.data.toList = true by rw [hl]; exact canon_good h0)
  have f1 : s.toList.isEmpty = false := by rw [Lib.toList_data, hl]; rfl
  have f1' : (!s.toList.isEmpty) = true := by rw [f1]; rfl
  have hf : (((s[0]).toNat : Int) == 48) = false ∨ ((((s[0]).toNat : Int) == 48) = true ∧ (s.toList == [48]) = true) := by
    rcases h0 with h0 | h0
    · left
      rw [hc0, beq_eq_false_iff_ne]
      intro e
      apply h0
      apply UInt8.toNat_inj.1
      have h48 : (48 : UInt8).toNat = 48 := rfl
      omega
    · by_cases e : c = 48
      · right
        refine ⟨?_, by rw [Lib.toList_data, hl, h0, e]; decide⟩
        rw [hc0, e]; rfl
      · left
        rw [hc0, beq_eq_false_iff_ne]
        intro e'
        apply e
        apply UInt8.toNat_inj.1
        have h48 : (48 : UInt8).toNat = 48 := rfl
        omega
  clear hc0 hl hsz h0
  have H1 := Lib.hid f1'
  rcases hf with hf | ⟨hf, hf'⟩
  all_goals
    go_enter Try.func85, Try.ntmps85
    go_wp2_with fail
    go_loop [17] (fun iv => ∃ k : Nat, k ≤ s.size ∧ iv = .int .i64 k ∧ Hid (∀ x ∈ s.data.toList.take k, isD x = true)) (fun iv => s.size - (intOf iv).toNat)
    case atStart => exact ⟨0, Nat.zero_le _, rfl, by rw [Hid, List.take_zero]; intro x hx; cases hx⟩
    case round =>
      obtain ⟨k, hk, rfl, Hk⟩ := hrel
      by_cases hkn : k < s.size
      · by_cases hd : isD s[k] = true
        · have hdd := (isD_iff _).1 hd
          have HN := Lib.hid (show ∀ x ∈ s.data.toList.take (k + 1), isD x = true by
            rw [take_snoc' s k hkn]
            intro x hx
            rcases List.mem_append.1 hx with hx | hx
            · exact Hk.out x hx
            · rw [List.mem_singleton.1 hx]; exact hd)
          have t1 : (48 : Int) ≤ ((s[k]).toNat : Int) := by omega
          have t2 : ((s[k]).toNat : Int) ≤ 57 := by omega
          clear hd hdd
          go_wp2
          go_round
          case rel => exact ⟨k + 1, by omega, by go_num, HN.out⟩
          case measure => simp [intOf]; omega
        · have hd : isD s[k] = false := by simpa using hd
          have HB := Lib.hid (canon_bad (l := s.data.toList) (c := s[k]) (List.getElem_mem (by simpa using hkn)) hd)
          have hdd : (s[k]).toNat < 48 ∨ 57 < (s[k]).toNat := by
            rcases Nat.lt_or_ge (s[k]).toNat 48 with h | h
            · exact .inl h
            · rcases Nat.lt_or_ge 57 (s[k]).toNat with h2 | h2
              · exact .inr h2
              · rw [(isD_iff _).2 ⟨h, h2⟩] at hd; cases hd
          clear hd
          rcases hdd with hdd | hdd
          · have t1 : ((s[k]).toNat : Int) < 48 := by omega
            clear hdd
            go_wp2
            go_ret
            exact ⟨ret_bool HB.out.symm, rfl⟩
          · have t1 : (48 : Int) ≤ ((s[k]).toNat : Int) := by omega
            have t2 : (57 : Int) < ((s[k]).toNat : Int) := by omega
            clear hdd
            go_wp2
            go_ret
            exact ⟨ret_bool HB.out.symm, rfl⟩
      · obtain rfl : k = s.size := by omega
        have HT := Lib.hid (HC.out (by
          have := Hk.out
          rwa [List.take_of_length_le (by simp)] at this))
        go_wp2
        go_ret
        exact ⟨ret_bool HT.out.symm, rfl⟩

theorem decimal_any (s : ByteArray) (w : World) (hs : s.size ≤ 140737488351232) :
    Calls Try.prog 85 #[.string s] w fun e w' => e = .returned (.bool (canon s.data.toList)) ∧ w = w' := by
  rcases hl : s.data.toList with _ | ⟨c, t⟩
  · have f1 : s.toList = [] := by rw [Lib.toList_data, hl]
    rw [canon_nil]
    clear hl
    go_enter Try.func85, Try.ntmps85
    go_wp2
    go_ret
    exact ⟨rfl, rfl⟩
  · by_cases h0 : c ≠ 48 ∨ t = []
    · rw [← hl]
      exact decimal_loop s w hs c t hl h0
    · have hc : c = 48 := by
        rcases Decidable.em (c = 48) with h | h
        · exact h
        · exact absurd (.inl h) h0
      have ht : t ≠ [] := fun h => h0 (.inr h)
      subst hc
      rw [canon_lead ht]
      have hpos : 0 < s.size := by
        have := congrArg List.length hl
        simp at this
        omega
      have hc0 : s[0] = 48 := by
        have : s.data.toList[0]'(by simpa using hpos) = 48 := by simp [hl]
        exact this
      have f1 : s.toList.isEmpty = false := by rw [Lib.toList_data, hl]; rfl
      have f1' : (!s.toList.isEmpty) = true := by rw [f1]; rfl
      have f2 : (((s[0]).toNat : Int) == 48) = true := by rw [hc0]; rfl
      have f3 : (s.toList == [48]) = false := by
        rw [Lib.toList_data, hl, beq_eq_false_iff_ne]
        intro e
        injection e with _ e
        exact ht e
      clear hl hc0 h0
      go_enter Try.func85, Try.ntmps85
      go_wp2
      go_ret
      exact ⟨rfl, rfl⟩

set_option maxHeartbeats 1000000 in
theorem smallNumber_any (s : ByteArray) (w : World) (hs : s.size ≤ 9) (hd : ∀ x ∈ s.data.toList, isD x = true) :
    Calls Try.prog 87 #[.string s] w fun e w' => e = .returned (.int .u32 (dnum s.data.toList : Nat)) ∧ w = w' := by
  have HD := Lib.hid hd
  clear hd
  go_enter Try.func87, Try.ntmps87
  go_wp2
  go_loop [3, 7] (fun nv iv => ∃ k n : Nat, k ≤ s.size ∧ iv = .int .i64 k ∧ nv = .int .u32 n ∧ Hid (dnum (s.data.toList.take k) = n)) (fun _ iv => s.size - (intOf iv).toNat)
  case atStart => exact ⟨0, 0, Nat.zero_le _, rfl, rfl, rfl⟩
  case round =>
    obtain ⟨k, n, hk, rfl, rfl, Hn⟩ := hrel
    by_cases hkn : k < s.size
    · have hdd := (isD_iff _).1 (HD.out s[k] (List.getElem_mem (by simpa using hkn)))
      have HN := Lib.hid (show dnum (s.data.toList.take (k + 1)) = 10 * n + ((s[k]).toNat - 48) by
        rw [take_snoc' s k hkn, dnum_snoc, Hn.out])
      have hlt : n < 100000000 := by
        have a := dnum_lt (l := s.data.toList.take k) (fun x hx => HD.out x (List.mem_of_mem_take hx))
        rw [Hn.out] at a
        have b : (10 : Nat) ^ (s.data.toList.take k).length ≤ 10 ^ 8 := Nat.pow_le_pow_right (by decide) (by rw [List.length_take]; omega)
        exact Nat.lt_of_lt_of_le a b
      have t1 : (48 : Int) ≤ ((s[k]).toNat : Int) := by omega
      have t2 : ((s[k]).toNat : Int) ≤ 57 := by omega
      clear hdd
      go_wp2
      go_round
      case rel => exact ⟨k + 1, 10 * n + ((s[k]).toNat - 48), by omega, by go_num, by go_num, HN.out⟩
      case measure => simp [intOf]; omega
    · obtain rfl : k = s.size := by omega
      have HT := Lib.hid (show dnum s.data.toList = n by
        have := Hn.out
        rwa [List.take_of_length_le (by simp)] at this)
      go_wp2
      go_ret
      exact ⟨ret_int (by rw [HT.out]), rfl⟩

theorem us_set (xs : List Nat) (k v : Nat) : us (xs.set k v) = (us xs).set k (.int .u32 (v : Int)) := by rw [us, List.map_set]; rfl
theorem scale_step {P S T c x f v c' : Nat} (hv : v + 4294967296 * c' = c + x * f) (h : S + P * c = T) : S + P * v + P * 4294967296 * c' = T + P * (x * f) := by
  have e : P * v + P * (4294967296 * c') = P * c + P * (x * f) := by rw [← Nat.mul_add, hv, Nat.mul_add]
  rw [Nat.mul_assoc]; omega
theorem scale_rel {w wr : World} {B g n c k cy f c0 : Nat} {xs xr : List Nat} (hk : k < n) (hl : xr.length = n) (Hown : Hid (wr.ownsRow B 51 1 (.slice (some ⟨g, 0, none⟩) n c) n (us xr))) (Hok : Hid (Ok xr)) (Hsame : Hid (Same xs xr 0 k))
    (Hval : Hid (wv xr 0 k + 4294967296 ^ k * cy = val (xs.take k) * f + c0)) (Hgr : Hid (w.grownBy wr (some g))) (s : Nat) (hs : s = cy + lim xs k * f) :
    Hid ((wr.setCell ⟨g, k, none⟩ (.int .u32 ((s % 4294967296 : Nat) : Int))).ownsRow B 51 1 (.slice (some ⟨g, 0, none⟩) n c) n (us (xr.set k (s % 4294967296)))) ∧ Hid (Ok (xr.set k (s % 4294967296))) ∧ Hid (Same xs (xr.set k (s % 4294967296)) 0 (k + 1)) ∧
    Hid (wv (xr.set k (s % 4294967296)) 0 (k + 1) + 4294967296 ^ (k + 1) * (s / 4294967296) = val (xs.take (k + 1)) * f + c0) ∧ Hid (w.grownBy (wr.setCell ⟨g, k, none⟩ (.int .u32 ((s % 4294967296 : Nat) : Int))) (some g)) := by
  refine ⟨?_, Hok.out.set _ (Nat.mod_lt _ (by decide)), ⟨by rw [List.length_set]; exact Hsame.out.1, fun i hi => ?_⟩, ?_, grown_set Hgr.out _ _⟩
  · rw [us_set]; exact (Hown.out.stored k _).1
  · rw [lim_set_ne (by omega)]; exact Hsame.out.2 i (by omega)
  · have e := wv_set_end (zs := xr) (off := 0) (k := k) (v := s % 4294967296) (by omega)
    rw [Nat.zero_add] at e
    rw [Hid, e, val_take_succ, Nat.pow_succ, Nat.add_mul, Nat.mul_assoc (4294967296 ^ k) (lim xs k) f]
    have := scale_step (v := s % 4294967296) (c' := s / 4294967296) (x := lim xs k) (f := f) (by omega) Hval.out
    omega
theorem own_lims {w : World} {B g n c : Nat} {xs : List Nat} (h : w.ownsRow B 51 1 (.slice (some ⟨g, 0, none⟩) n c) n (us xs)) : xs.length = n := by
  have := h.1
  rw [us_length] at this
  omega

set_option maxHeartbeats 1000000 in
theorem scale_own (B g n c f c0 : Nat) (xs : List Nat) (w : World) (h : w.ownsRow B 51 1 (.slice (some ⟨g, 0, none⟩) n c) n (us xs)) (ox : Ok xs) (hf : f < 4294967296) (hc0 : c0 < 4294967296) (hn : n ≤ 1000000) :
    Calls Try.prog 86 #[.slice (some ⟨g, 0, none⟩) n c, .int .u32 (f : Int), .int .u32 (c0 : Int)] w fun e w' => ∃ (xs' : List Nat) (cy : Nat), e = .returned (.int .u32 (cy : Int)) ∧ w'.ownsRow B 51 1 (.slice (some ⟨g, 0, none⟩) n c) n (us xs') ∧ Ok xs' ∧
      val xs' + 4294967296 ^ n * cy = val xs * f + c0 ∧ cy < 4294967296 ∧ w.grownBy w' (some g) := by
  have hlx := own_lims h
  have HL := Lib.hid hlx
  clear hlx
  go_enter Try.func86, Try.ntmps86
  go_wp2
  go_loopw [7, 13] (fun sv iv wr => ∃ (k cy : Nat) (xr : List Nat), k ≤ n ∧ iv = .int .i64 k ∧ sv = .int .u64 cy ∧ cy < 4294967296 ∧ Hid (wr.ownsRow B 51 1 (.slice (some ⟨g, 0, none⟩) n c) n (us xr)) ∧ Hid (Ok xr) ∧ Hid (Same xs xr 0 k) ∧
      Hid (wv xr 0 k + 4294967296 ^ k * cy = val (xs.take k) * f + c0) ∧ Hid (w.grownBy wr (some g))) (fun _ iv _ => n - (intOf iv).toNat)
  case atStart => exact ⟨0, c0, xs, by omega, rfl, rfl, hc0, h, ox, Same.refl _ _ _, by simp [Hid, wv, val], World.grownBy.refl w _⟩
  case round =>
    obtain ⟨k, cy, xr, hk, rfl, rfl, hcy, Hown, Hok, Hsame, Hval, Hgr⟩ := hrel
    by_cases hkn : k < n
    · have hl := own_lims Hown.out
      have hc1 : wr.cell? ⟨g, k, none⟩ = some (.int .u32 (lim xs k : Nat)) := by
        rw [Hown.out.cellAt k (by omega), us_get xr k (by omega), Hsame.out.2 k (.inr (Nat.le_refl _))]
      have hf1 := Hown.out.frozenAt k
      have hy := ox.lim k
      have R := Lib.hid (scale_rel hkn hl Hown Hok Hsame Hval Hgr _ rfl)
      have hp : lim xs k * f ≤ 4294967295 * 4294967295 := Nat.mul_le_mul (by omega) (by omega)
      have b1 : ((lim xs k : Nat) : Int) * (f : Int) ≤ 18446744065119617025 := by rw [← Int.natCast_mul]; omega
      have b0 : 0 ≤ ((lim xs k : Nat) : Int) * (f : Int) := by rw [← Int.natCast_mul]; omega
      have c1 : ((cy : Int) + ((lim xs k : Nat) : Int) * (f : Int)) = ((cy + lim xs k * f : Nat) : Int) := by rw [Int.natCast_add, Int.natCast_mul]
      have C1 := Lib.hid (And.intro c1 (show (cy + lim xs k * f) / 4294967296 < 4294967296 by omega))
      clear c1 hp hl
      go_wp2
      rw [C1.out.1, show (((cy + lim xs k * f : Nat) : Int) % 4294967296) = (((cy + lim xs k * f) % 4294967296 : Nat) : Int) by omega, show (((cy + lim xs k * f : Nat) : Int) / 4294967296) = (((cy + lim xs k * f) / 4294967296 : Nat) : Int) by omega]
      exact ⟨⟨k + 1, (cy + lim xs k * f) / 4294967296, _, by omega, by go_num, rfl, C1.out.2, R.out⟩, by simp [intOf]; omega⟩
    · obtain rfl : k = n := by omega
      have HV := Lib.hid (show val xr + 4294967296 ^ k * cy = val xs * f + c0 by
        have a := Hval.out
        rw [wv_all xr (by rw [own_lims Hown.out]; exact Nat.le_refl _), List.take_of_length_le (by rw [HL.out]; exact Nat.le_refl _)] at a
        exact a)
      go_wp2
      go_ret
      exact ⟨xr, cy, by simp, Hown.out, Hok.out, HV.out, hcy, Hgr.out⟩

set_option maxHeartbeats 400000 in
theorem scale_nil (f c0 : Nat) (w : World) (hc0 : c0 < 4294967296) :
    Calls Try.prog 86 #[.slice none 0 0, .int .u32 (f : Int), .int .u32 (c0 : Int)] w fun e w' => e = .returned (.int .u32 (c0 : Int)) ∧ w = w' := by
  go_enter Try.func86, Try.ntmps86
  go_wp2
  go_loop [7, 13] (fun sv iv => sv = .int .u64 c0 ∧ iv = .int .i64 0) (fun _ _ => 0)
  case atStart => exact ⟨rfl, rfl⟩
  case round =>
    obtain ⟨rfl, rfl⟩ := hrel
    go_wp2
    go_ret
    exact ⟨rfl, rfl⟩

/-- What Parse makes of these bytes. -/
def prs (l : List UInt8) : Option Int :=
  if canon (Lib.trimPrefix l [45]) && !(Lib.hasPrefix l [45] && Lib.trimPrefix l [45] == [48]) then some (sg (Lib.hasPrefix l [45]) (dnum (Lib.trimPrefix l [45]))) else none
def prZ (l : List UInt8) : Int := match prs l with | none => 0 | some z => fitZ z
def prE (l : List UInt8) : Int := match prs l with | none => 3 | some z => fitE z

end Go.Proofs.Ytalgcppogjpilaa
