/-
  Written by mkbase.py: LawTexts.
-/
import Derived.Test.YtlibjampolcbhaaGreatBaseG
import Derived.Test.YtlibjampolcbhaaGreatBaseE
import Derived.Deep.DeepCutAuto
import Derived.Deep.RegionHeld3
import Derived.IntWalk
namespace Go.Proofs.YtlibjampolcbhaaGreat
open Go.RowKit
/-- What the digits written so far say. -/
def TxR (N M : Nat) (S : List UInt8) : Prop := (S = [] ∧ M = N) ∨ (S ≠ [] ∧ ((N = 0 ∧ M = 0 ∧ S = [48]) ∨ (N ≠ 0 ∧ dec N = dec M ++ S)))
theorem TxR.start (N : Nat) : TxR N N [] := .inl ⟨rfl, rfl⟩
theorem TxR.step {N M : Nat} {S : List UInt8} (h : TxR N M S) (hp : M ≠ 0 ∨ S = []) : TxR N (M / 10) (dgt M :: S) := by
  right
  refine ⟨by simp, ?_⟩
  by_cases hM : M = 0
  · rcases h with ⟨hS, h⟩ | ⟨hS, h⟩
    · left
      subst hS
      exact ⟨by rw [← h, hM], by rw [hM], by rw [hM]; rfl⟩
    · rcases hp with hp | hp
      · exact absurd hM hp
      · exact absurd hp hS
  · right
    rcases h with ⟨hS, h⟩ | ⟨hS, h | ⟨h, e⟩⟩
    · refine ⟨by omega, ?_⟩
      rw [← h, dec_step hM, hS]
    · omega
    · refine ⟨h, ?_⟩
      rw [e, dec_step hM]; simp
theorem TxR.done {N : Nat} {S : List UInt8} (h : TxR N 0 S) (hS : S ≠ []) : S = if N = 0 then [48] else dec N := by
  rcases h with ⟨e, _⟩ | ⟨_, ⟨e, _, e2⟩ | ⟨e, e2⟩⟩
  · exact absurd e hS
  · rw [if_pos e, e2]
  · rw [if_neg e, e2, dec_zero, List.nil_append]
theorem TxR.len {N M : Nat} {S : List UInt8} (h : TxR N M S) : S.length ≤ (dec N).length + 1 := by
  rcases h with ⟨e, _⟩ | ⟨_, ⟨_, _, e⟩ | ⟨_, e⟩⟩
  · rw [e]; simp
  · rw [e]; simp
  · rw [e, List.length_append]; omega
theorem str_eq {s : ByteArray} {T : List UInt8} (h : s.data.toList = T) : s = ⟨T.toArray⟩ := by subst h; rfl
theorem ret_str {s t : ByteArray} {v : Value} (h : s = t) : Ending.returned (.tuple #[.string s, v]) = .returned (.tuple #[.string t, v]) := by rw [h]
/-- How much is still to be done. -/
def gh (v : Nat) (S : List UInt8) : Nat := v + if S = [] then 1 else 0
theorem lit_conv (w : World) (b : UInt8) : (convert 104 9 (.slice (some ⟨w.heap.size, 0, none⟩) 1 1)).run Tryz.prog (w.alloc (.cells #[.int .u8 (b.toNat : Int)] 5)) = .ok (.string ⟨#[b]⟩) (w.alloc (.cells #[.int .u8 (b.toNat : Int)] 5)) := by
  have h : Bb (w.alloc (.cells #[.int .u8 (b.toNat : Int)] 5)) w.heap.size [b] := Blk.new w _ _
  exact h.conv 0 1 [b] rfl rfl
set_option maxRecDepth 20000 in
set_option maxHeartbeats 2000000 in
theorem rtext_good (neg : Bool) (A : Option Addr) (n c : Nat) (xs : List Nat) (w : World) (h : Sl w w.heap.size A n c xs) (hv : vld neg xs = true) (N : Nat) (hN : val xs = N) (T : List UInt8) (hT : (if N = 0 then [48] else dec N) = T) :
    Calls Tryz.prog 85 #[.agg #[.bool neg, .slice A n c]] w fun e w' => e = .returned (.tuple #[.string ⟨((if neg then [45] else []) ++ T).toArray⟩, .int .i64 0]) ∧ Below w.heap.size w w' := by
  have Hg := Lib.hid (vld_true hv)
  have hn : n ≤ 1000000 := by have := h.len; have := Hg.out.1; omega
  have HN := Lib.hid hN
  have HTT := Lib.hid hT
  clear hN hT
  go_enter Tryz.func85, Tryz.ntmps85
  go_wp2_with fail
  generalize hW : World.alloc w _ = W
  have hb : Below w.heap.size w W := by subst hW; exact (Below.refl _ _).alloc (Nat.le_refl _) _
  have b0 : Bx W w.heap.size neg A n c := by subst hW; exact Bx.new _ _ _ _ _
  have hs := h.on hb
  clear hW h
  generalize hr : w.heap.size = r at *
  have HR := Lib.hid hr
  clear hr
  refine (rvalid_any _ _ _ _ _ xs _ hs (Nat.le_refl _)).mono ?_
  rintro e w1 ⟨rfl, hb1⟩
  have HB := Lib.hid (below_chain hb (Nat.le_of_lt b0.lt) hb1)
  replace b0 := b0.below hb1 b0.lt
  replace hs := hs.on hb1
  clear hb hb1
  have k0 := b0.c0
  have k1 := b0.c1
  rw [hv]
  go_wp2
  have hdl : (dec N).length ≤ 10 * 128 := dec_len (by
    have := val_lt hs.ok
    rw [HN.out] at this
    exact Nat.lt_of_lt_of_le this (Nat.le_trans (Nat.pow_le_pow_right (by decide) Hg.out.1) (dec_ten 128)))
  go_loopg [4, 5] (N + 1) (fun gg s4 s5 wr => ∃ (s : ByteArray) (A' : Option Addr) (n' c' : Nat) (zs : List Nat), s4 = .string s ∧ s5 = .slice A' n' c' ∧ n' ≤ 1000000 ∧ gh (val zs) s.data.toList = gg ∧ Hid (Sl wr wr.heap.size A' n' c' zs) ∧ Hid (Nz zs) ∧ Hid (TxR N (val zs) s.data.toList) ∧ Hid (Bx wr r neg A n c) ∧ Hid (Below r w wr))
  case atStart => exact ⟨_, A, n, c, xs, rfl, rfl, hn, by rw [HN.out]; rfl, hs, Hg.out.2.1, by rw [HN.out]; exact TxR.start N, b0, HB.out⟩
  case round =>
    obtain ⟨s, A', n', c', zs, rfl, rfl, hn', rfl, Hs, Hz, Htx, Hb, HBe⟩ := hrel
    have hsz : s.size ≤ 1281 := by
      have := Htx.out.len
      simp at this
      omega
    have hl' := Hs.out.len
    obtain ⟨M, hM⟩ : ∃ M, val zs = M := ⟨_, rfl⟩
    have HMv := Lib.hid hM
    have hM0 : n' = 0 → M = 0 := fun e => by
      rw [← hM, List.eq_nil_of_length_eq_zero (hl'.trans e)]; rfl
    have hM1 : 0 < n' → M ≠ 0 := fun e => by
      have := val_pos Hz.out (by rintro rfl; simp at hl'; omega)
      omega
    clear hM hl'
    clear k0 k1
    by_cases hn0 : 0 < n'
    · have t1 : (0 : Int) < (n' : Int) := by omega
      have HOR : M ≠ 0 ∨ s.data.toList = [] := .inl (hM1 hn0)
      have HMM := Lib.hid (show M / 10 < M from Nat.div_lt_self (Nat.pos_of_ne_zero (hM1 hn0)) (by omega))
      clear hM0 hM1
      · skip
        go_wp2_with fail
        refine (rshort_any A' n' c' 10 zs _ Hs.out hn' (by omega) (by omega)).mono ?_
        rintro e w2 ⟨A1, n1, c1, xs1, rfl, hs1, hx1, hv1, hb1⟩
        have hr10 : M % 10 < 10 := Nat.mod_lt _ (by omega)
        have hdg := dgt_val M
        have hcv := lit_conv w2 (dgt M)
        rw [hdg] at hcv
        have HP := Lib.hid (show Sl (w2.alloc (.cells #[.int .u8 ((48 + M % 10 : Nat) : Int)] 5)) (w2.alloc (.cells #[.int .u8 ((48 + M % 10 : Nat) : Int)] 5)).heap.size A1 n1 c1 xs1 ∧ Bx (w2.alloc (.cells #[.int .u8 ((48 + M % 10 : Nat) : Int)] 5)) r neg A n c ∧ Below r w (w2.alloc (.cells #[.int .u8 ((48 + M % 10 : Nat) : Int)] 5)) from
          ⟨hs1.on (fresh_below _ _), (Hb.out.below hb1 Hb.out.lt).alloc _, (below_chain HBe.out (Nat.le_of_lt Hb.out.lt) hb1).alloc (by have := Hb.out.lt; have := hb1.size; omega) _⟩)
        have H1 := Lib.hid (And.intro hx1 (show val xs1 = M / 10 by rw [hv1, HMv.out]))
        have hn1 : n1 ≤ 1000000 := by
          have a : val xs1 < 4294967296 ^ n' := by
            rw [H1.out.2]
            have := val_lt Hs.out.ok
            rw [Hs.out.len, HMv.out] at this
            exact Nat.lt_of_le_of_lt (Nat.div_le_self _ _) this
          have := length_le H1.out.1 a
          have := hs1.len
          omega
        have HT := Lib.hid (show TxR N (val xs1) ((⟨#[dgt M]⟩ : ByteArray) ++ s).data.toList from by
          rw [H1.out.2, ByteArray.data_append, Array.toList_append]
          exact (HMv.out ▸ Htx.out).step HOR)
        have e48 : (48 : Int) + ((M % 10 : Nat) : Int) = ((48 + M % 10 : Nat) : Int) := by omega
        have HMS := Lib.hid (show gh (val xs1) ((⟨#[dgt M]⟩ : ByteArray) ++ s).data.toList < gh (val zs) s.data.toList from by
          unfold gh
          rw [H1.out.2, HMv.out, ByteArray.data_append, Array.toList_append]
          simp
          have := HMM.out
          omega)
        rw [HMv.out]
        generalize M % 10 = q at *
        have E48 := Lib.hid e48
        rw [← e48] at hcv
        have HPe := HP
        rw [← e48] at HPe
        clear hs1 hx1 hv1 hb1 hdg e48 HP
        go_wp2
        go_roundg (gh (val xs1) ((⟨#[dgt M]⟩ : ByteArray) ++ s).data.toList)
        case measure => exact HMS.out
        case rel => exact ⟨_, A1, n1, c1, xs1, rfl, rfl, hn1, rfl, HPe.out.1, H1.out.1, HT.out, HPe.out.2.1, HPe.out.2.2⟩
    · obtain rfl : n' = 0 := by omega
      by_cases hs0 : s.data.toList = []
      · have t2 : s.toList = [] := by rw [Lib.toList_data]; exact hs0
        have HOR : M ≠ 0 ∨ s.data.toList = [] := .inr hs0
        have HMM := Lib.hid (And.intro (hM0 rfl) hs0)
        clear hM0 hM1 hs0
        go_wp2_with fail
        refine (rshort_any A' 0 c' 10 zs _ Hs.out hn' (by omega) (by omega)).mono ?_
        rintro e w2 ⟨A1, n1, c1, xs1, rfl, hs1, hx1, hv1, hb1⟩
        have hr10 : M % 10 < 10 := Nat.mod_lt _ (by omega)
        have hdg := dgt_val M
        have hcv := lit_conv w2 (dgt M)
        rw [hdg] at hcv
        have HP := Lib.hid (show Sl (w2.alloc (.cells #[.int .u8 ((48 + M % 10 : Nat) : Int)] 5)) (w2.alloc (.cells #[.int .u8 ((48 + M % 10 : Nat) : Int)] 5)).heap.size A1 n1 c1 xs1 ∧ Bx (w2.alloc (.cells #[.int .u8 ((48 + M % 10 : Nat) : Int)] 5)) r neg A n c ∧ Below r w (w2.alloc (.cells #[.int .u8 ((48 + M % 10 : Nat) : Int)] 5)) from
          ⟨hs1.on (fresh_below _ _), (Hb.out.below hb1 Hb.out.lt).alloc _, (below_chain HBe.out (Nat.le_of_lt Hb.out.lt) hb1).alloc (by have := Hb.out.lt; have := hb1.size; omega) _⟩)
        have H1 := Lib.hid (And.intro hx1 (show val xs1 = M / 10 by rw [hv1, HMv.out]))
        have hn1 : n1 ≤ 1000000 := by
          have a : val xs1 < 4294967296 ^ 0 := by
            rw [H1.out.2]
            have := val_lt Hs.out.ok
            rw [Hs.out.len, HMv.out] at this
            exact Nat.lt_of_le_of_lt (Nat.div_le_self _ _) this
          have := length_le H1.out.1 a
          have := hs1.len
          omega
        have HT := Lib.hid (show TxR N (val xs1) ((⟨#[dgt M]⟩ : ByteArray) ++ s).data.toList from by
          rw [H1.out.2, ByteArray.data_append, Array.toList_append]
          exact (HMv.out ▸ Htx.out).step HOR)
        have e48 : (48 : Int) + ((M % 10 : Nat) : Int) = ((48 + M % 10 : Nat) : Int) := by omega
        have HMS := Lib.hid (show gh (val xs1) ((⟨#[dgt M]⟩ : ByteArray) ++ s).data.toList < gh (val zs) s.data.toList from by
          unfold gh
          rw [H1.out.2, HMv.out, ByteArray.data_append, Array.toList_append]
          rw [if_neg (by simp), if_pos HMM.out.2, HMM.out.1]
          omega)
        rw [HMv.out]
        generalize M % 10 = q at *
        have E48 := Lib.hid e48
        rw [← e48] at hcv
        have HPe := HP
        rw [← e48] at HPe
        clear hs1 hx1 hv1 hb1 hdg e48 HP
        go_wp2
        go_roundg (gh (val xs1) ((⟨#[dgt M]⟩ : ByteArray) ++ s).data.toList)
        case measure => exact HMS.out
        case rel => exact ⟨_, A1, n1, c1, xs1, rfl, rfl, hn1, rfl, HPe.out.1, H1.out.1, HT.out, HPe.out.2.1, HPe.out.2.2⟩
      · have t2 : s.toList.isEmpty = false := by
          rw [Lib.toList_data]
          cases h : s.data.toList with
          | nil => exact absurd h hs0
          | cons a l => rfl
        have t3 : (!s.toList.isEmpty) = true := by rw [t2]; rfl
        have b0 := Hb.out
        have k0 := b0.c0
        have HD := Lib.hid (show s.data.toList = T from by
          have a := Htx.out
          rw [HMv.out, hM0 rfl] at a
          rw [← HTT.out]
          exact a.done hs0)
        clear hM0 hM1 hs0
        cases neg with
        | false =>
          go_wp2
          go_ret2
          exact ⟨ret_str (str_eq HD.out), HR.out ▸ HBe.out⟩
        | true =>
          go_wp2
          go_ret2
          exact ⟨ret_str (str_eq (by rw [ByteArray.data_append, Array.toList_append, HD.out]; rfl)), HR.out ▸ HBe.out⟩
set_option maxRecDepth 20000 in
set_option maxHeartbeats 1000000 in
theorem rtext_bad (neg : Bool) (A : Option Addr) (n c : Nat) (xs : List Nat) (w : World) (h : Sl w w.heap.size A n c xs) (hv : vld neg xs = false) :
    Calls Tryz.prog 85 #[.agg #[.bool neg, .slice A n c]] w fun e w' => e = .returned (.tuple #[.string ⟨#[]⟩, .int .i64 1]) ∧ Below w.heap.size w w' := by
  go_enter Tryz.func85, Tryz.ntmps85
  go_wp2_with fail
  generalize hW : World.alloc w _ = W
  have hb : Below w.heap.size w W := by subst hW; exact (Below.refl _ _).alloc (Nat.le_refl _) _
  have hs := h.on hb
  clear hW
  refine (rvalid_any _ _ _ _ _ xs _ hs (Nat.le_refl _)).mono ?_
  rintro e w1 ⟨rfl, hb1⟩
  have HB := Lib.hid (below_chain hb hb.size hb1)
  rw [hv]
  go_wp2
  go_ret2
  exact ⟨rfl, HB.out⟩
theorem rtext_ov {neg : Bool} {A : Option Addr} {n c : Nat} {xs : List Nat} {w : World} (h : Sl w w.heap.size A n c xs) :
    Calls Tryz.prog 85 #[.agg #[.bool neg, .slice A n c]] w fun e w' => e = .returned (.tuple #[.string ⟨(txB (ov neg xs)).toArray⟩, .int .i64 (txE (ov neg xs))]) ∧ Below w.heap.size w w' := by
  rcases hv : vld neg xs with _ | _
  · rw [ov_none hv]
    exact rtext_bad neg A n c xs w h hv
  · rw [ov_some hv]
    have e : txB (some (sg neg (val xs))) = (if neg then [45] else []) ++ (if val xs = 0 then [48] else dec (val xs)) := by
      show decT _ = _
      unfold decT
      by_cases h0 : val xs = 0
      · have e0 : xs = [] := val_zero (vld_true hv).2.1 h0
        rw [(vld_true hv).2.2 e0, h0]; rfl
      · rw [if_neg h0]
        cases neg
        · rw [sg_false, if_neg (by omega), if_neg (by omega)]; rfl
        · rw [sg_true, if_neg (by omega), if_pos (by omega), show (-(val xs : Int)).natAbs = val xs by omega]; rfl
    rw [e]
    exact rtext_good neg A n c xs w h hv (val xs) rfl _ rfl
end Go.Proofs.YtlibjampolcbhaaGreat
namespace Go.Proofs.YtlibjampolcbhaaGreat
open Go.RowKit
theorem Sl.at {w b p q n c xs} (h : Sl w b (some { block := p, off := 0 }) n c xs) (e : p = q) : Sl w b (some { block := q, off := 0 }) n c xs := e ▸ h
def pfZ (b : Bool) (z : Int) : Int := if b then fitZ z else 0
def pfE (b : Bool) (z : Int) : Int := if b then fitE z else 3
theorem pfZ_t (z : Int) : pfZ true z = fitZ z := rfl
theorem pfE_t (z : Int) : pfE true z = fitE z := rfl
theorem pfZ_f (z : Int) : pfZ false z = 0 := rfl
theorem pfE_f (z : Int) : pfE false z = 3 := rfl
theorem first_of {s : ByteArray} {c : UInt8} {t : List UInt8} (h : s.data.toList = c :: t) : ∃ hp : 0 < s.size, s[0] = c ∧ s.size = t.length + 1 := by
  have hl := congrArg List.length h
  have hp : 0 < s.size := by
    simp at hl
    omega
  refine ⟨hp, ?_, by simpa using hl⟩
  have : s.data.toList[0]'(by simpa using hp) = c := by simp [h]
  exact this
theorem byte_ne {c : UInt8} {k : Nat} (hk : k < 256) (h : c ≠ UInt8.ofNat k) : ((c.toNat : Int) == (k : Int)) = false := by
  rw [beq_eq_false_iff_ne]
  intro e
  apply h
  apply UInt8.toNat_inj.1
  rw [UInt8.toNat_ofNat']
  omega
theorem lit_sl (w : World) (x : Nat) (hx : x < 4294967296) : Sl (w.alloc (.cells #[.int .u32 (x : Int)] 73)) (w.alloc (.cells #[.int .u32 (x : Int)] 73)).heap.size (some ⟨w.heap.size, 0, none⟩) 1 1 [x] :=
  Row.sl (w := w.alloc (.cells #[.int .u32 (x : Int)] 73)) (zs := [x]) (Blk.new w 73 _) (show w.heap.size < (w.alloc (.cells #[.int .u32 (x : Int)] 73)).heap.size by simp) 0 (Nat.le_refl _) (Nat.le_refl _) (by decide) (Ok.cons hx Ok.nil)
theorem lit_slw (w : World) (x : Nat) (y : Int) (hy : y = (x : Int)) (hx : x < 4294967296) : Sl (w.alloc (.cells #[.int .u32 y] 73)) (w.alloc (.cells #[.int .u32 y] 73)).heap.size (some ⟨w.heap.size, 0, none⟩) 1 1 [x] := by
  subst hy; exact lit_sl w x hx
theorem lit10 (w : World) : Sl (w.alloc (.cells #[.int .u32 10] 73)) (w.alloc (.cells #[.int .u32 10] 73)).heap.size (some ⟨w.heap.size, 0, none⟩) 1 1 [10] := lit_sl w 10 (by omega)
theorem len_ten {w w' : World} {B B' n c n' c' : Nat} {A A' : Option Addr} {xs ys : List Nat} (h : Sl w B A n c xs) (hx : Nz xs) (hv : val xs = val ys * 10) (h' : Sl w' B' A' n' c' ys) (hn : n' ≤ 128) : n ≤ 1000000 := by
  have a : val xs < 4294967296 ^ (n' + 1) := by
    rw [hv, Nat.pow_succ]
    have := val_lt h'.ok
    rw [h'.len] at this
    omega
  have := length_le hx a
  have := h.len
  omega
/-- Parse of the empty string. -/
theorem rparse_nil (s : ByteArray) (w : World) (hs : s.data.toList = []) : Calls Tryz.prog 89 #[.string s] w (RetIE 0 3 w) := by
  have Hb := Lib.hid ((Below.refl w.heap.size w).alloc (Nat.le_refl _) (.cells #[.bool false, .slice none 0 0] 24))
  have t1 : s.toList = [] := by rw [Lib.toList_data]; exact hs
  clear hs
  go_enter Tryz.func89, Tryz.ntmps89
  go_wp2
  exact bodyPost_ret (v := .tuple #[.agg #[.bool false, .slice none 0 0], .int .i64 3]) (by simp [results, Tryz.results89, go_sem]) rfl
    ⟨none, 0, 0, [], rfl, Sl.nil _ _, Nz.nil, rfl, Hb.out⟩
set_option maxRecDepth 20000 in
set_option maxHeartbeats 1000000 in
theorem rparse_form_t (s : ByteArray) (w : World) (t : List UInt8) (hs : s.data.toList = 45 :: t) (hf : t = [] ∨ ∃ u, t = 48 :: u) (hz : s.size ≤ 140737488351232) : Calls Tryz.prog 89 #[.string s] w (RetIE 0 3 w) := by
  have Hb := Lib.hid ((Below.refl w.heap.size w).alloc (Nat.le_refl _) (.cells #[.bool false, .slice none 0 0] 24))
  obtain ⟨hp, h0, hl⟩ := first_of hs
  have f1 : s.toList.isEmpty = false := by rw [Lib.toList_data, hs]; rfl
  have f2 : (!s.toList.isEmpty) = true := by rw [f1]; rfl
  have f3 : (((s[0]).toNat : Int) == 45) = true := by rw [h0]; rfl
  have f4 : (s.toList == [48]) = false := by rw [Lib.toList_data, hs]; rfl
  have hd : (s.extract 1 s.size).data.toList = t := by rw [Lib.extract_to_end, hs]; rfl
  have hp1 : (1 : Int) ≤ (s.size : Int) := by omega
  generalize hD : s.extract 1 s.size = d at *
  rcases hf with rfl | ⟨u, rfl⟩
  · have g1 : d.toList = [] := by rw [Lib.toList_data]; exact hd
    clear hd h0 hl hs
    go_enter Tryz.func89, Tryz.ntmps89
    go_wp2
    exact bodyPost_ret (v := .tuple #[.agg #[.bool false, .slice none 0 0], .int .i64 3]) (by simp [results, Tryz.results89, go_sem]) rfl
      ⟨none, 0, 0, [], rfl, Sl.nil _ _, Nz.nil, rfl, Hb.out⟩
  
  · obtain ⟨hq, q0, ql⟩ := first_of hd
    have g1 : d.toList.isEmpty = false := by rw [Lib.toList_data, hd]; rfl
    have g2 : (!d.toList.isEmpty) = true := by rw [g1]; rfl
    have g3 : (((d[0]).toNat : Int) == 48) = true := by rw [q0]; rfl
    clear hd h0 hl hs q0 ql
    go_enter Tryz.func89, Tryz.ntmps89
    go_wp2
    exact bodyPost_ret (v := .tuple #[.agg #[.bool false, .slice none 0 0], .int .i64 3]) (by simp [results, Tryz.results89, go_sem]) rfl
      ⟨none, 0, 0, [], rfl, Sl.nil _ _, Nz.nil, rfl, Hb.out⟩
set_option maxRecDepth 20000 in
set_option maxHeartbeats 1000000 in
theorem rparse_form_f (s : ByteArray) (w : World) (t : List UInt8) (hs : s.data.toList = t) (hf : ∃ u, t = 48 :: u ∧ u ≠ []) : Calls Tryz.prog 89 #[.string s] w (RetIE 0 3 w) := by
  have Hb := Lib.hid ((Below.refl w.heap.size w).alloc (Nat.le_refl _) (.cells #[.bool false, .slice none 0 0] 24))
  obtain ⟨u, rfl, hu⟩ := hf
  obtain ⟨hp, h0, hl⟩ := first_of hs
  have f1 : s.toList.isEmpty = false := by rw [Lib.toList_data, hs]; rfl
  have f2 : (!s.toList.isEmpty) = true := by rw [f1]; rfl
  have f3 : (((s[0]).toNat : Int) == 45) = false := by rw [h0]; rfl
  have f5 : (((s[0]).toNat : Int) == 48) = true := by rw [h0]; rfl
  have f4 : (s.toList == [48]) = false := by
    rw [Lib.toList_data, hs, beq_eq_false_iff_ne]
    intro e
    injection e with _ e
    exact hu e
  clear h0 hl hs hu
  go_enter Tryz.func89, Tryz.ntmps89
  go_wp2
  exact bodyPost_ret (v := .tuple #[.agg #[.bool false, .slice none 0 0], .int .i64 3]) (by simp [results, Tryz.results89, go_sem]) rfl
    ⟨none, 0, 0, [], rfl, Sl.nil _ _, Nz.nil, rfl, Hb.out⟩
set_option maxRecDepth 20000 in
set_option maxHeartbeats 4000000 in
theorem rparse_num_t (s d : ByteArray) (w : World) (hz : s.size ≤ 140737488351232) (c : UInt8) (t : List UInt8) (hs : s.data.toList = 45 :: c :: t) (hD : s.extract 1 s.size = d) (h48 : c ≠ 48) (N : Nat) (hN : dnum (c :: t) = N) (bb : Bool) (hbb : (c :: t).all isD = bb) :
    Calls Tryz.prog 89 #[.string s] w (RetIE (pfZ bb (sg true N)) (pfE bb (sg true N)) w) := by
  obtain ⟨hp, h0, hl⟩ := first_of hs
  have f1 : s.toList.isEmpty = false := by rw [Lib.toList_data, hs]; rfl
  have f2 : (!s.toList.isEmpty) = true := by rw [f1]; rfl
  have f3 : (((s[0]).toNat : Int) == 45) = true := by rw [h0]; rfl
  have hd : d.data.toList = c :: t := by rw [← hD, Lib.extract_to_end, hs]; rfl
  have hp1 : (1 : Int) ≤ (s.size : Int) := by omega
  obtain ⟨hq, q0, ql⟩ := first_of hd
  have g1 : d.toList.isEmpty = false := by rw [Lib.toList_data, hd]; rfl
  have g2 : (!d.toList.isEmpty) = true := by rw [g1]; rfl
  have g3 : (((d[0]).toNat : Int) == 48) = false := by rw [q0]; exact byte_ne (k := 48) (by decide) h48
  have g5 : (d.size : Int) < (s.size : Int) := by simp at hl; omega
  have hdz : d.size ≤ 140737488351232 := by omega
  have HD := Lib.hid (And.intro hd hN)
  have HBB := Lib.hid hbb
  clear hbb hd hN q0 ql hs h0 hl
  go_enter Tryz.func89, Tryz.ntmps89
  go_wp2
  generalize hW : World.alloc w _ = W
  have HB := Lib.hid (show Below w.heap.size w W ∧ Bx W w.heap.size false none 0 0 from by rw [← hW]; exact ⟨(Below.refl _ _).alloc (Nat.le_refl _) _, Bx.new _ _ _ _ _⟩)
  clear hW
  generalize hr : w.heap.size = r at *
  have HR := Lib.hid hr
  clear hr
  go_loop [5] (fun iv => ∃ k : Nat, k ≤ d.size ∧ iv = .int .i64 k ∧ Hid (∀ x ∈ d.data.toList.take k, isD x = true)) (fun iv => d.size - (intOf iv).toNat)
  case atStart => exact ⟨0, Nat.zero_le _, rfl, by rw [Hid, List.take_zero]; intro x hx; cases hx⟩
  case round =>
    obtain ⟨k, hk, rfl, Hk⟩ := hrel
    by_cases hkn : k < d.size
    · by_cases hdg : isD d[k] = true
      · have hdd := (isD_iff _).1 hdg
        have HN := Lib.hid (show ∀ x ∈ d.data.toList.take (k + 1), isD x = true by
          rw [take_snoc' d k hkn]
          intro x hx
          rcases List.mem_append.1 hx with hx | hx
          · exact Hk.out x hx
          · rw [List.mem_singleton.1 hx]; exact hdg)
        have t1 : (48 : Int) ≤ ((d[k]).toNat : Int) := by omega
        have t2 : ((d[k]).toNat : Int) ≤ 57 := by omega
        clear hdg hdd
        go_wp2
        go_round
        case rel => exact ⟨k + 1, by omega, by go_num, HN.out⟩
        case measure => simp [intOf]; omega
      · have hdg : isD d[k] = false := by simpa using hdg
        have hall : (c :: t).all isD = false := by
          rw [← HD.out.1, ← Bool.not_eq_true, List.all_eq_true]
          intro e
          have h9 : isD d[k] = true := e _ (List.getElem_mem (by simpa using hkn) : d.data.toList[k]'(by simpa using hkn) ∈ _)
          rw [h9] at hdg
          cases hdg
        have HALL := Lib.hid (show bb = false from HBB.out.symm.trans hall)
        clear hall
        have b0 := HB.out.2
        have k3 := b0.c0
        have k4 := b0.c1
        have k5 := b0.f 0
        have k6 := b0.f 1
        have hdd : (d[k]).toNat < 48 ∨ 57 < (d[k]).toNat := by
          rcases Nat.lt_or_ge (d[k]).toNat 48 with h | h
          · exact .inl h
          · rcases Nat.lt_or_ge 57 (d[k]).toNat with h2 | h2
            · exact .inr h2
            · rw [(isD_iff _).2 ⟨h, h2⟩] at hdg; cases hdg
        clear hdg
        have HE : RetIE 0 3 w (.returned (.tuple #[.agg #[.bool false, .slice none 0 0], .int .i64 3])) ((W.setCell ⟨r, 0, none⟩ (.bool false)).setCell ⟨r, 1, none⟩ (.slice none 0 0)) :=
          ⟨none, 0, 0, [], rfl, Sl.nil _ _, Nz.nil, rfl, by rw [HR.out]; exact below_ret HB.out.1 (Nat.le_refl _) _ _⟩
        have HEE := Lib.hid HE
        clear HE
        rcases hdd with hdd | hdd
        · have t1 : ((d[k]).toNat : Int) < 48 := by omega
          clear hdd
          go_wp2
          refine bodyPost_ret (v := .tuple #[.agg #[.bool false, .slice none 0 0], .int .i64 3]) (by simp [results, Tryz.results89, go_sem, k3, k4]) rfl ?_
          rw [HALL.out, pfZ_f, pfE_f]
          exact HEE.out
        · have t1 : (48 : Int) ≤ ((d[k]).toNat : Int) := by omega
          have t2 : (57 : Int) < ((d[k]).toNat : Int) := by omega
          clear hdd
          go_wp2
          refine bodyPost_ret (v := .tuple #[.agg #[.bool false, .slice none 0 0], .int .i64 3]) (by simp [results, Tryz.results89, go_sem, k3, k4]) rfl ?_
          rw [HALL.out, pfZ_f, pfE_f]
          exact HEE.out
    · obtain rfl : k = d.size := by omega
      have hall : (c :: t).all isD = true := by
        rw [← HD.out.1, List.all_eq_true]
        have := Hk.out
        rwa [List.take_of_length_le (by simp)] at this
      have HALL := Lib.hid (show bb = true from HBB.out.symm.trans hall)
      have HA := Lib.hid (show ∀ x ∈ d.data.toList, isD x = true from by rw [HD.out.1]; exact List.all_eq_true.1 hall)
      clear hall
      have hdz2 : d.size ≤ 140737488351232 := hdz
      go_wp2
      go_loopg [6, 7] d.size (fun gg s6 s7 wr => ∃ (A : Option Addr) (n cc k : Nat) (xs : List Nat), s6 = .slice A n cc ∧ s7 = .int .i64 k ∧ k ≤ d.size ∧ d.size - k = gg ∧ n ≤ 129 ∧ Hid (Sl wr wr.heap.size A n cc xs) ∧ Hid (Nz xs) ∧ Hid (val xs = dnum (d.data.toList.take k)) ∧ Hid (Bx wr r false none 0 0) ∧ Hid (Below r w wr))
      case atStart => exact ⟨none, 0, 0, 0, [], rfl, by go_num, Nat.zero_le _, rfl, by omega, Sl.nil _ _, Nz.nil, rfl, HB.out.2, HB.out.1⟩
      case round =>
        obtain ⟨A, n, cc, k, xs, rfl, rfl, hk, rfl, hn9, Hs, Hz, Hv, Hb, HBe⟩ := hrel
        by_cases hst : k < d.size ∧ n ≤ 128
        · obtain ⟨hkn, hn8⟩ := hst
          have hdd := (isD_iff _).1 (HA.out d[k] (List.getElem_mem (by simpa using hkn)))
          obtain ⟨x, hx⟩ : ∃ x, (d[k]).toNat - 48 = x := ⟨_, rfl⟩
          have hx9 : x < 10 := by omega
          have HNX := Lib.hid (show dnum (d.data.toList.take (k + 1)) = val xs * 10 + x from by
            rw [take_snoc' d k hkn, dnum_snoc, ← Hv.out, hx]; omega)
          have exi : ((d[k]).toNat : Int) - 48 = (x : Int) := by omega
          have t1 : (48 : Int) ≤ ((d[k]).toNat : Int) := by omega
          have t2 : ((k : Int) < (d.size : Int)) := by omega
          have t3 : (n : Int) ≤ 128 := by omega
          have HXX := Lib.hid exi
          clear hdd hx
          have HWX := Lib.hid (show IntKind.u32.wrap (IntKind.u8.wrap (x : Int)) = (x : Int) from by rw [IntWalk.u8_in _ (by omega), IntWalk.u32_in _ (by omega)])
          have t0 : (0 : Int) ≤ (k : Int) := by omega
          have hn8' : n ≤ 1000000 := by omega
          have hsz : ∀ o, (wr.alloc o).heap.size = wr.heap.size + 1 := by intro o; simp
          have L1 := Lib.hid (And.intro (lit10 wr) (Hs.out.on (fresh_below wr (.cells #[.int .u32 10] 73))))
          have L2 := Lib.hid (And.intro ((lit10 wr).on (fresh_below _ (.cells #[.int .u32 (IntKind.u32.wrap (IntKind.u8.wrap (x : Int)))] 73))) (And.intro ((Hs.out.on (fresh_below wr (.cells #[.int .u32 10] 73))).on (fresh_below _ (.cells #[.int .u32 (IntKind.u32.wrap (IntKind.u8.wrap (x : Int)))] 73))) ((lit_slw (wr.alloc (.cells #[.int .u32 10] 73)) x _ HWX.out (by omega)).at (hsz _))))
          have L3 := Lib.hid (And.intro ((lit10 (wr.alloc (.cells #[.int .u32 (IntKind.u32.wrap (IntKind.u8.wrap (x : Int)))] 73))).at (hsz _)) (And.intro ((Hs.out.on (fresh_below wr (.cells #[.int .u32 (IntKind.u32.wrap (IntKind.u8.wrap (x : Int)))] 73))).on (fresh_below _ (.cells #[.int .u32 10] 73))) ((lit_slw wr x _ HWX.out (by omega)).on (fresh_below _ (.cells #[.int .u32 10] 73)))))
          have hx9' : x < 4294967296 := by omega
          have hv10 : val [10] = 10 := rfl
          have HV10 := Lib.hid hv10
          clear hv10
          go_upto_region 15 with fail
          go_region_held3 (fun _ => True) (trivial)
            (first
              | (go_at_call 115
                 ((with_reducible refine (rtimes_any _ _ _ _ _ _ xs [10] _ L1.out.2.drew L1.out.1.drew hn8' (by omega)).mono ?_)
                  rintro e v3 ⟨A3, n3, c3, xs3, rfl, hs3, hx3, hv3, hb3⟩
                  rw [HV10.out] at hv3
                  have HT := Lib.hid (And.intro hs3 (And.intro hx3 (And.intro hv3 (show Below wr.heap.size wr v3 from below_chain (fresh_below wr _).drew (by simp) hb3))))
                  have hn3 := len_ten hs3 hx3 hv3 Hs.out hn8
                  have hone := lit_slw v3 x _ HWX.out hx9'
                  have hall3 := (show Sl v3 v3.heap.size A3 n3 c3 xs3 from HT.out.1).on (fresh_below v3 (.cells #[.int .u32 (IntKind.u32.wrap (IntKind.u8.wrap (x : Int)))] 73))
                  have hbe3 := below_chain HT.out.2.2.2 HT.out.2.2.2.size (fresh_below v3 (.cells #[.int .u32 (IntKind.u32.wrap (IntKind.u8.wrap (x : Int)))] 73))
                  clear hs3 hx3 hv3 hb3))
              | (go_at_call 115
                 ((with_reducible refine (rtimes_any _ _ _ _ _ _ xs [10] _ L2.out.2.1.drew L2.out.1.drew hn8' (by omega)).mono ?_)
                  rintro e v3 ⟨A3, n3, c3, xs3, rfl, hs3, hx3, hv3, hb3⟩
                  rw [HV10.out] at hv3
                  have HT := Lib.hid (And.intro hs3 (And.intro hx3 (And.intro hv3 (show Below wr.heap.size wr v3 from below_chain ((fresh_below wr _).alloc (by simp) _).drew (by simp; omega) hb3))))
                  have hn3 := len_ten hs3 hx3 hv3 Hs.out hn8
                  have hone := L2.out.2.2.drew.on hb3
                  have hall3 := (show Sl v3 v3.heap.size A3 n3 c3 xs3 from HT.out.1)
                  have hbe3 := HT.out.2.2.2
                  clear hs3 hx3 hv3 hb3))
              | (go_at_call 115
                 ((with_reducible refine (rtimes_any _ _ _ _ _ _ xs [10] _ L3.out.2.1.drew L3.out.1.drew hn8' (by omega)).mono ?_)
                  rintro e v3 ⟨A3, n3, c3, xs3, rfl, hs3, hx3, hv3, hb3⟩
                  rw [HV10.out] at hv3
                  have HT := Lib.hid (And.intro hs3 (And.intro hx3 (And.intro hv3 (show Below wr.heap.size wr v3 from below_chain ((fresh_below wr _).alloc (by simp) _).drew (by simp; omega) hb3))))
                  have hn3 := len_ten hs3 hx3 hv3 Hs.out hn8
                  have hone := L3.out.2.2.drew.on hb3
                  have hall3 := (show Sl v3 v3.heap.size A3 n3 c3 xs3 from HT.out.1)
                  have hbe3 := HT.out.2.2.2
                  clear hs3 hx3 hv3 hb3))
              | (go_at_call 103
                 ((with_reducible refine (rtrim_any _ 1 1 _ [x] _ hone).mono ?_)
                  rintro e v4 ⟨⟨j, hj, rfl, hnz, hv4⟩, rfl⟩
                  have htj := hone.to hj
                  have HV4 := Lib.hid (show val ([x].take j) = x from by rw [hv4]; simp [val])
                  have hj9 : j ≤ 1000000 := by omega
                  clear hv4))
              | (go_at_call 106
                 ((with_reducible refine (rplus_any _ _ _ _ _ _ xs3 _ _ hall3 htj hn3 hj9).mono ?_)
                  rintro e v5 ⟨A5, n5, c5, xs5, rfl, hs5, hx5, hv5, hb5⟩
                  have HP5 := Lib.hid (And.intro hs5 (And.intro hx5 (And.intro (show val xs5 = val xs * 10 + x from by rw [hv5, HT.out.2.2.1, HV4.out]) (below_chain hbe3 hbe3.size hb5))))
                  clear hs5 hx5 hv5 hb5)))
          all_goals
            obtain ⟨hs5, hx5, hv5, hb5⟩ := HP5.out
            have H5 := Lib.hid (And.intro hs5 (And.intro hx5 (show val xs5 = dnum (d.data.toList.take (k + 1)) from by rw [hv5, HNX.out])))
            have HB5 := Lib.hid (And.intro (Hb.out.below hb5 Hb.out.lt) (below_chain HBe.out (Nat.le_of_lt Hb.out.lt) hb5))
            have hn5 : n5 ≤ 129 := by
              have a : val xs5 < 4294967296 ^ (n + 1) := by
                rw [hv5, Nat.pow_succ]
                have := val_lt Hs.out.ok
                rw [Hs.out.len] at this
                omega
              have := length_le hx5 a
              have := hs5.len
              omega
            clear hs5 hx5 hv5 hb5
            go_wp2
            go_roundg (d.size - (k + 1))
            case measure => omega
            case rel => exact ⟨A5, n5, c5, k + 1, xs5, rfl, by go_num, by omega, rfl, hn5, H5.out.1, H5.out.2.1, H5.out.2.2, HB5.out.1, HB5.out.2⟩
        · have HX := Lib.hid (show fitZ (sg true (val xs)) = fitZ (sg true N) ∧ fitE (sg true (val xs)) = fitE (sg true N) from by
            by_cases hks : k < d.size
            · have hn8 : 128 < n := by omega
              have a : BIG ≤ val xs := by
                have := val_ge Hz.out (by rintro rfl; have := Hs.out.len; simp at this; omega)
                rw [Hs.out.len] at this
                have b : (4294967296 : Nat) ^ 128 ≤ 4294967296 ^ (n - 1) := Nat.pow_le_pow_right (by decide) (by omega)
                exact Nat.le_trans b this
              have b : val xs ≤ N := by
                have e := dnum_app (d.data.toList.take k) (d.data.toList.drop k)
                rw [List.take_append_drop, HD.out.1, HD.out.2] at e
                rw [Hv.out, HD.out.1, e]
                have := Nat.mul_le_mul_left (dnum ((c :: t).take k)) (show 1 ≤ 10 ^ ((c :: t).drop k).length from Nat.pow_pos (by decide))
                omega
              have f1 := fit_no (z := sg true (val xs)) (by rw [sg_abs]; omega)
              have f2 := fit_no (z := sg true N) (by rw [sg_abs]; omega)
              exact ⟨f1.1.trans f2.1.symm, f1.2.trans f2.2.symm⟩
            · have e : val xs = N := by
                rw [Hv.out, List.take_of_length_le (by simp; omega), HD.out.1, HD.out.2]
              rw [e]
              exact ⟨rfl, rfl⟩)
          have hfin : (d.size : Int) ≤ (k : Int) ∨ ((k : Int) < (d.size : Int) ∧ (128 : Int) < (n : Int)) := by omega
          have C := fit_any true A n cc xs _ Hs.out Hz.out
          rw [HX.out.1, HX.out.2] at C
          have HC := Lib.hid C
          clear C hst
          rcases hfin with q1 | ⟨q1, q2⟩
          all_goals
            go_wp2_with fail
            refine HC.out.mono ?_
            rintro e w8 ⟨A8, n8, c8, xs8, rfl, hs8, hx8, hv8, hb8⟩
            have b0 := Hb.out.below hb8 Hb.out.lt
            have k3 := b0.c0
            have k4 := b0.c1
            have k5 := b0.f 0
            have k6 := b0.f 1
            have H8 := Lib.hid (And.intro hx8 hv8)
            have HB8 := Lib.hid (below_chain HBe.out (Nat.le_of_lt Hb.out.lt) hb8)
            clear hx8 hv8 hb8
            go_wp2
            refine bodyPost_ret (v := .tuple #[.agg #[.bool (decide (fitZ (sg true N) < 0)), .slice A8 n8 c8], .int .i64 (fitE (sg true N))]) (by simp [results, Tryz.results89, go_sem, k3, k4]) rfl ?_
            rw [HALL.out, pfZ_t, pfE_t]
            exact ⟨A8, n8, c8, xs8, rfl, hs8.ret b0 _ _, H8.out.1, H8.out.2, by rw [HR.out]; exact below_ret HB8.out (Nat.le_refl _) _ _⟩
set_option maxRecDepth 20000 in
set_option maxHeartbeats 4000000 in
theorem rparse_num_f (s : ByteArray) (w : World) (hz : s.size ≤ 140737488351232) (c : UInt8) (t : List UInt8) (hs : s.data.toList = c :: t) (h45 : c ≠ 45) (h48 : c ≠ 48 ∨ t = []) (N : Nat) (hN : dnum (c :: t) = N) (bb : Bool) (hbb : (c :: t).all isD = bb) :
    Calls Tryz.prog 89 #[.string s] w (RetIE (pfZ bb (sg false N)) (pfE bb (sg false N)) w) := by
  have hd := hs
  obtain ⟨hq, q0, ql⟩ := first_of hs
  have g1 : s.toList.isEmpty = false := by rw [Lib.toList_data, hs]; rfl
  have g2 : (!s.toList.isEmpty) = true := by rw [g1]; rfl
  have f3 : (((s[0]).toNat : Int) == 45) = false := by rw [q0]; exact byte_ne (k := 45) (by decide) h45
  have g3 : (((s[0]).toNat : Int) == 48) = false ∨ ((((s[0]).toNat : Int) == 48) = true ∧ (s.toList == [48]) = true) := by
    by_cases e : c = 48
    · right
      have ht : t = [] := h48.elim (fun h => absurd e h) id
      exact ⟨by rw [q0, e]; rfl, by rw [Lib.toList_data, hs, ht, e]; decide⟩
    · left; rw [q0]; exact byte_ne (k := 48) (by decide) e
  have g5 : (s.size : Int) ≤ (s.size : Int) := Int.le_refl _
  have hdz : s.size ≤ 140737488351232 := by omega
  have HD := Lib.hid (And.intro hd hN)
  have HBB := Lib.hid hbb
  clear hbb hd hN q0 ql hs
  rcases g3 with g3 | ⟨g3, g4⟩
  all_goals
    go_enter Tryz.func89, Tryz.ntmps89
    go_wp2
    generalize hW : World.alloc w _ = W
    have HB := Lib.hid (show Below w.heap.size w W ∧ Bx W w.heap.size false none 0 0 from by rw [← hW]; exact ⟨(Below.refl _ _).alloc (Nat.le_refl _) _, Bx.new _ _ _ _ _⟩)
    clear hW
    generalize hr : w.heap.size = r at *
    have HR := Lib.hid hr
    clear hr
    go_loop [5] (fun iv => ∃ k : Nat, k ≤ s.size ∧ iv = .int .i64 k ∧ Hid (∀ x ∈ s.data.toList.take k, isD x = true)) (fun iv => s.size - (intOf iv).toNat)
    case atStart => exact ⟨0, Nat.zero_le _, rfl, by rw [Hid, List.take_zero]; intro x hx; cases hx⟩
    case round =>
      obtain ⟨k, hk, rfl, Hk⟩ := hrel
      by_cases hkn : k < s.size
      · by_cases hdg : isD s[k] = true
        · have hdd := (isD_iff _).1 hdg
          have HN := Lib.hid (show ∀ x ∈ s.data.toList.take (k + 1), isD x = true by
            rw [take_snoc' s k hkn]
            intro x hx
            rcases List.mem_append.1 hx with hx | hx
            · exact Hk.out x hx
            · rw [List.mem_singleton.1 hx]; exact hdg)
          have t1 : (48 : Int) ≤ ((s[k]).toNat : Int) := by omega
          have t2 : ((s[k]).toNat : Int) ≤ 57 := by omega
          clear hdg hdd
          go_wp2
          go_round
          case rel => exact ⟨k + 1, by omega, by go_num, HN.out⟩
          case measure => simp [intOf]; omega
        · have hdg : isD s[k] = false := by simpa using hdg
          have hall : (c :: t).all isD = false := by
            rw [← HD.out.1, ← Bool.not_eq_true, List.all_eq_true]
            intro e
            have h9 : isD s[k] = true := e _ (List.getElem_mem (by simpa using hkn) : s.data.toList[k]'(by simpa using hkn) ∈ _)
            rw [h9] at hdg
            cases hdg
          have HALL := Lib.hid (show bb = false from HBB.out.symm.trans hall)
          clear hall
          have b0 := HB.out.2
          have k3 := b0.c0
          have k4 := b0.c1
          have k5 := b0.f 0
          have k6 := b0.f 1
          have hdd : (s[k]).toNat < 48 ∨ 57 < (s[k]).toNat := by
            rcases Nat.lt_or_ge (s[k]).toNat 48 with h | h
            · exact .inl h
            · rcases Nat.lt_or_ge 57 (s[k]).toNat with h2 | h2
              · exact .inr h2
              · rw [(isD_iff _).2 ⟨h, h2⟩] at hdg; cases hdg
          clear hdg
          have HE : RetIE 0 3 w (.returned (.tuple #[.agg #[.bool false, .slice none 0 0], .int .i64 3])) ((W.setCell ⟨r, 0, none⟩ (.bool false)).setCell ⟨r, 1, none⟩ (.slice none 0 0)) :=
            ⟨none, 0, 0, [], rfl, Sl.nil _ _, Nz.nil, rfl, by rw [HR.out]; exact below_ret HB.out.1 (Nat.le_refl _) _ _⟩
          have HEE := Lib.hid HE
          clear HE
          rcases hdd with hdd | hdd
          · have t1 : ((s[k]).toNat : Int) < 48 := by omega
            clear hdd
            go_wp2
            refine bodyPost_ret (v := .tuple #[.agg #[.bool false, .slice none 0 0], .int .i64 3]) (by simp [results, Tryz.results89, go_sem, k3, k4]) rfl ?_
            rw [HALL.out, pfZ_f, pfE_f]
            exact HEE.out
          · have t1 : (48 : Int) ≤ ((s[k]).toNat : Int) := by omega
            have t2 : (57 : Int) < ((s[k]).toNat : Int) := by omega
            clear hdd
            go_wp2
            refine bodyPost_ret (v := .tuple #[.agg #[.bool false, .slice none 0 0], .int .i64 3]) (by simp [results, Tryz.results89, go_sem, k3, k4]) rfl ?_
            rw [HALL.out, pfZ_f, pfE_f]
            exact HEE.out
      · obtain rfl : k = s.size := by omega
        have hall : (c :: t).all isD = true := by
          rw [← HD.out.1, List.all_eq_true]
          have := Hk.out
          rwa [List.take_of_length_le (by simp)] at this
        have HALL := Lib.hid (show bb = true from HBB.out.symm.trans hall)
        have HA := Lib.hid (show ∀ x ∈ s.data.toList, isD x = true from by rw [HD.out.1]; exact List.all_eq_true.1 hall)
        clear hall
        have hdz2 : s.size ≤ 140737488351232 := hdz
        go_wp2
        go_loopg [6, 7] s.size (fun gg s6 s7 wr => ∃ (A : Option Addr) (n cc k : Nat) (xs : List Nat), s6 = .slice A n cc ∧ s7 = .int .i64 k ∧ k ≤ s.size ∧ s.size - k = gg ∧ n ≤ 129 ∧ Hid (Sl wr wr.heap.size A n cc xs) ∧ Hid (Nz xs) ∧ Hid (val xs = dnum (s.data.toList.take k)) ∧ Hid (Bx wr r false none 0 0) ∧ Hid (Below r w wr))
        case atStart => exact ⟨none, 0, 0, 0, [], rfl, by go_num, Nat.zero_le _, rfl, by omega, Sl.nil _ _, Nz.nil, rfl, HB.out.2, HB.out.1⟩
        case round =>
          obtain ⟨A, n, cc, k, xs, rfl, rfl, hk, rfl, hn9, Hs, Hz, Hv, Hb, HBe⟩ := hrel
          by_cases hst : k < s.size ∧ n ≤ 128
          · obtain ⟨hkn, hn8⟩ := hst
            have hdd := (isD_iff _).1 (HA.out s[k] (List.getElem_mem (by simpa using hkn)))
            obtain ⟨x, hx⟩ : ∃ x, (s[k]).toNat - 48 = x := ⟨_, rfl⟩
            have hx9 : x < 10 := by omega
            have HNX := Lib.hid (show dnum (s.data.toList.take (k + 1)) = val xs * 10 + x from by
              rw [take_snoc' s k hkn, dnum_snoc, ← Hv.out, hx]; omega)
            have exi : ((s[k]).toNat : Int) - 48 = (x : Int) := by omega
            have t1 : (48 : Int) ≤ ((s[k]).toNat : Int) := by omega
            have t2 : ((k : Int) < (s.size : Int)) := by omega
            have t3 : (n : Int) ≤ 128 := by omega
            have HXX := Lib.hid exi
            clear hdd hx
            have HWX := Lib.hid (show IntKind.u32.wrap (IntKind.u8.wrap (x : Int)) = (x : Int) from by rw [IntWalk.u8_in _ (by omega), IntWalk.u32_in _ (by omega)])
            have t0 : (0 : Int) ≤ (k : Int) := by omega
            have hn8' : n ≤ 1000000 := by omega
            have hsz : ∀ o, (wr.alloc o).heap.size = wr.heap.size + 1 := by intro o; simp
            have L1 := Lib.hid (And.intro (lit10 wr) (Hs.out.on (fresh_below wr (.cells #[.int .u32 10] 73))))
            have L2 := Lib.hid (And.intro ((lit10 wr).on (fresh_below _ (.cells #[.int .u32 (IntKind.u32.wrap (IntKind.u8.wrap (x : Int)))] 73))) (And.intro ((Hs.out.on (fresh_below wr (.cells #[.int .u32 10] 73))).on (fresh_below _ (.cells #[.int .u32 (IntKind.u32.wrap (IntKind.u8.wrap (x : Int)))] 73))) ((lit_slw (wr.alloc (.cells #[.int .u32 10] 73)) x _ HWX.out (by omega)).at (hsz _))))
            have L3 := Lib.hid (And.intro ((lit10 (wr.alloc (.cells #[.int .u32 (IntKind.u32.wrap (IntKind.u8.wrap (x : Int)))] 73))).at (hsz _)) (And.intro ((Hs.out.on (fresh_below wr (.cells #[.int .u32 (IntKind.u32.wrap (IntKind.u8.wrap (x : Int)))] 73))).on (fresh_below _ (.cells #[.int .u32 10] 73))) ((lit_slw wr x _ HWX.out (by omega)).on (fresh_below _ (.cells #[.int .u32 10] 73)))))
            have hx9' : x < 4294967296 := by omega
            have hv10 : val [10] = 10 := rfl
            have HV10 := Lib.hid hv10
            clear hv10
            go_upto_region 15 with fail
            go_region_held3 (fun _ => True) (trivial)
              (first
                | (go_at_call 115
                   ((with_reducible refine (rtimes_any _ _ _ _ _ _ xs [10] _ L1.out.2.drew L1.out.1.drew hn8' (by omega)).mono ?_)
                    rintro e v3 ⟨A3, n3, c3, xs3, rfl, hs3, hx3, hv3, hb3⟩
                    rw [HV10.out] at hv3
                    have HT := Lib.hid (And.intro hs3 (And.intro hx3 (And.intro hv3 (show Below wr.heap.size wr v3 from below_chain (fresh_below wr _).drew (by simp) hb3))))
                    have hn3 := len_ten hs3 hx3 hv3 Hs.out hn8
                    have hone := lit_slw v3 x _ HWX.out hx9'
                    have hall3 := (show Sl v3 v3.heap.size A3 n3 c3 xs3 from HT.out.1).on (fresh_below v3 (.cells #[.int .u32 (IntKind.u32.wrap (IntKind.u8.wrap (x : Int)))] 73))
                    have hbe3 := below_chain HT.out.2.2.2 HT.out.2.2.2.size (fresh_below v3 (.cells #[.int .u32 (IntKind.u32.wrap (IntKind.u8.wrap (x : Int)))] 73))
                    clear hs3 hx3 hv3 hb3))
                | (go_at_call 115
                   ((with_reducible refine (rtimes_any _ _ _ _ _ _ xs [10] _ L2.out.2.1.drew L2.out.1.drew hn8' (by omega)).mono ?_)
                    rintro e v3 ⟨A3, n3, c3, xs3, rfl, hs3, hx3, hv3, hb3⟩
                    rw [HV10.out] at hv3
                    have HT := Lib.hid (And.intro hs3 (And.intro hx3 (And.intro hv3 (show Below wr.heap.size wr v3 from below_chain ((fresh_below wr _).alloc (by simp) _).drew (by simp; omega) hb3))))
                    have hn3 := len_ten hs3 hx3 hv3 Hs.out hn8
                    have hone := L2.out.2.2.drew.on hb3
                    have hall3 := (show Sl v3 v3.heap.size A3 n3 c3 xs3 from HT.out.1)
                    have hbe3 := HT.out.2.2.2
                    clear hs3 hx3 hv3 hb3))
                | (go_at_call 115
                   ((with_reducible refine (rtimes_any _ _ _ _ _ _ xs [10] _ L3.out.2.1.drew L3.out.1.drew hn8' (by omega)).mono ?_)
                    rintro e v3 ⟨A3, n3, c3, xs3, rfl, hs3, hx3, hv3, hb3⟩
                    rw [HV10.out] at hv3
                    have HT := Lib.hid (And.intro hs3 (And.intro hx3 (And.intro hv3 (show Below wr.heap.size wr v3 from below_chain ((fresh_below wr _).alloc (by simp) _).drew (by simp; omega) hb3))))
                    have hn3 := len_ten hs3 hx3 hv3 Hs.out hn8
                    have hone := L3.out.2.2.drew.on hb3
                    have hall3 := (show Sl v3 v3.heap.size A3 n3 c3 xs3 from HT.out.1)
                    have hbe3 := HT.out.2.2.2
                    clear hs3 hx3 hv3 hb3))
                | (go_at_call 103
                   ((with_reducible refine (rtrim_any _ 1 1 _ [x] _ hone).mono ?_)
                    rintro e v4 ⟨⟨j, hj, rfl, hnz, hv4⟩, rfl⟩
                    have htj := hone.to hj
                    have HV4 := Lib.hid (show val ([x].take j) = x from by rw [hv4]; simp [val])
                    have hj9 : j ≤ 1000000 := by omega
                    clear hv4))
                | (go_at_call 106
                   ((with_reducible refine (rplus_any _ _ _ _ _ _ xs3 _ _ hall3 htj hn3 hj9).mono ?_)
                    rintro e v5 ⟨A5, n5, c5, xs5, rfl, hs5, hx5, hv5, hb5⟩
                    have HP5 := Lib.hid (And.intro hs5 (And.intro hx5 (And.intro (show val xs5 = val xs * 10 + x from by rw [hv5, HT.out.2.2.1, HV4.out]) (below_chain hbe3 hbe3.size hb5))))
                    clear hs5 hx5 hv5 hb5)))
            all_goals
              obtain ⟨hs5, hx5, hv5, hb5⟩ := HP5.out
              have H5 := Lib.hid (And.intro hs5 (And.intro hx5 (show val xs5 = dnum (s.data.toList.take (k + 1)) from by rw [hv5, HNX.out])))
              have HB5 := Lib.hid (And.intro (Hb.out.below hb5 Hb.out.lt) (below_chain HBe.out (Nat.le_of_lt Hb.out.lt) hb5))
              have hn5 : n5 ≤ 129 := by
                have a : val xs5 < 4294967296 ^ (n + 1) := by
                  rw [hv5, Nat.pow_succ]
                  have := val_lt Hs.out.ok
                  rw [Hs.out.len] at this
                  omega
                have := length_le hx5 a
                have := hs5.len
                omega
              clear hs5 hx5 hv5 hb5
              go_wp2
              go_roundg (s.size - (k + 1))
              case measure => omega
              case rel => exact ⟨A5, n5, c5, k + 1, xs5, rfl, by go_num, by omega, rfl, hn5, H5.out.1, H5.out.2.1, H5.out.2.2, HB5.out.1, HB5.out.2⟩
          · have HX := Lib.hid (show fitZ (sg false (val xs)) = fitZ (sg false N) ∧ fitE (sg false (val xs)) = fitE (sg false N) from by
              by_cases hks : k < s.size
              · have hn8 : 128 < n := by omega
                have a : BIG ≤ val xs := by
                  have := val_ge Hz.out (by rintro rfl; have := Hs.out.len; simp at this; omega)
                  rw [Hs.out.len] at this
                  have b : (4294967296 : Nat) ^ 128 ≤ 4294967296 ^ (n - 1) := Nat.pow_le_pow_right (by decide) (by omega)
                  exact Nat.le_trans b this
                have b : val xs ≤ N := by
                  have e := dnum_app (s.data.toList.take k) (s.data.toList.drop k)
                  rw [List.take_append_drop, HD.out.1, HD.out.2] at e
                  rw [Hv.out, HD.out.1, e]
                  have := Nat.mul_le_mul_left (dnum ((c :: t).take k)) (show 1 ≤ 10 ^ ((c :: t).drop k).length from Nat.pow_pos (by decide))
                  omega
                have f1 := fit_no (z := sg false (val xs)) (by rw [sg_abs]; omega)
                have f2 := fit_no (z := sg false N) (by rw [sg_abs]; omega)
                exact ⟨f1.1.trans f2.1.symm, f1.2.trans f2.2.symm⟩
              · have e : val xs = N := by
                  rw [Hv.out, List.take_of_length_le (by simp; omega), HD.out.1, HD.out.2]
                rw [e]
                exact ⟨rfl, rfl⟩)
            have hfin : (s.size : Int) ≤ (k : Int) ∨ ((k : Int) < (s.size : Int) ∧ (128 : Int) < (n : Int)) := by omega
            have C := fit_any false A n cc xs _ Hs.out Hz.out
            rw [HX.out.1, HX.out.2] at C
            have HC := Lib.hid C
            clear C hst
            rcases hfin with q1 | ⟨q1, q2⟩
            all_goals
              go_wp2_with fail
              refine HC.out.mono ?_
              rintro e w8 ⟨A8, n8, c8, xs8, rfl, hs8, hx8, hv8, hb8⟩
              have b0 := Hb.out.below hb8 Hb.out.lt
              have k3 := b0.c0
              have k4 := b0.c1
              have k5 := b0.f 0
              have k6 := b0.f 1
              have H8 := Lib.hid (And.intro hx8 hv8)
              have HB8 := Lib.hid (below_chain HBe.out (Nat.le_of_lt Hb.out.lt) hb8)
              clear hx8 hv8 hb8
              go_wp2
              refine bodyPost_ret (v := .tuple #[.agg #[.bool (decide (fitZ (sg false N) < 0)), .slice A8 n8 c8], .int .i64 (fitE (sg false N))]) (by simp [results, Tryz.results89, go_sem, k3, k4]) rfl ?_
              rw [HALL.out, pfZ_t, pfE_t]
              exact ⟨A8, n8, c8, xs8, rfl, hs8.ret b0 _ _, H8.out.1, H8.out.2, by rw [HR.out]; exact below_ret HB8.out (Nat.le_refl _) _ _⟩
end Go.Proofs.YtlibjampolcbhaaGreat
namespace Go.Proofs.YtlibjampolcbhaaGreat
open Go.RowKit
theorem lead_ne {c k : UInt8} {t : List UInt8} (h : c ≠ k) : ((c :: t) == [k]) = false := by
  rw [beq_eq_false_iff_ne]
  intro e
  injection e with e _
  exact h e
theorem canon_digits {c : UInt8} {t : List UInt8} (h : c ≠ 48 ∨ t = []) : canon (c :: t) = (c :: t).all isD := by
  by_cases hd : ∀ x ∈ c :: t, isD x = true
  · rw [canon_good h hd, List.all_eq_true.2 hd]
  · have e : (c :: t).all isD = false := by
      rw [← Bool.not_eq_true, List.all_eq_true]; exact hd
    rw [e]
    unfold canon
    rw [e, Bool.and_false]
theorem rparse_ov (s : ByteArray) (w : World) (hs : s.size ≤ 140737488351232) : Calls Tryz.prog 89 #[.string s] w (RetIE (prZ s.data.toList) (prE s.data.toList) w) := by
  rcases minus_or s.data.toList with ⟨t, ht⟩ | hm
  · have e : prs s.data.toList = if canon t && !(t == [48]) then some (sg true (dnum t)) else none := by
      unfold prs
      rw [ht, (has_minus t).1, (has_minus t).2, Bool.true_and]
    unfold prZ prE
    rw [e]
    rcases t with _ | ⟨c, t⟩
    · exact rparse_form_t s w [] ht (.inl rfl) hs
    · by_cases h48 : c = 48
      · subst h48
        have f : (canon (48 :: t) && !((48 :: t : List UInt8) == [48])) = false := by
          by_cases h : t = []
          · subst h; rfl
          · rw [canon_lead h]; rfl
        rw [f]
        exact rparse_form_t s w (48 :: t) ht (.inr ⟨t, rfl⟩) hs
      · rw [lead_ne h48, canon_digits (.inl h48), Bool.not_false, Bool.and_true]
        have C := rparse_num_t s (s.extract 1 s.size) w hs c t ht rfl h48 _ rfl _ rfl
        generalize (c :: t).all isD = bb at *
        cases bb
        · exact C
        · exact C
  · have e : prs s.data.toList = if canon s.data.toList then some (sg false (dnum s.data.toList)) else none := by
      unfold prs
      rw [(no_minus hm).1, (no_minus hm).2, Bool.false_and, Bool.not_false, Bool.and_true]
    unfold prZ prE
    rw [e]
    rcases hl : s.data.toList with _ | ⟨c, t⟩
    · exact rparse_nil s w hl
    · by_cases h : c = 48 ∧ t ≠ []
      · obtain ⟨rfl, h⟩ := h
        rw [canon_lead h]
        exact rparse_form_f s w (48 :: t) hl ⟨t, rfl, h⟩
      · have h0 : c ≠ 48 ∨ t = [] := by
          by_cases h1 : c = 48
          · right
            by_cases h2 : t = []
            · exact h2
            · exact absurd ⟨h1, h2⟩ h
          · exact .inl h1
        rw [canon_digits h0]
        have h45 : c ≠ 45 := fun e => hm (by rw [hl, e]; rfl)
        have C := rparse_num_f s w hs c t hl h45 h0 _ rfl _ rfl
        generalize (c :: t).all isD = bb at *
        cases bb
        · exact C
        · exact C
end Go.Proofs.YtlibjampolcbhaaGreat
