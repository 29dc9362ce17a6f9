/-
 Written by mkbase.py: TextQ.
-/
import Derived.Deep.DeepCutAuto
import Derived.Lib.PathFns
import Derived.Lib.IndexBytes
import Derived.Test.YtmncfbfepdbioaaGreatDoorBaseC
set_option maxHeartbeats 2000000
namespace Go.Proofs.YtmncfbfepdbioaaGreatDoor
def dgt (d : Nat) : UInt8 := UInt8.ofNat (48 + d % 10)
def dec (N : Nat) : List UInt8 := if _h : N = 0 then [] else dec (N / 10) ++ [dgt N]
termination_by N
decreasing_by omega
theorem dec_zero : dec 0 = [] := by rw [dec, dif_pos rfl]
theorem dec_step {N : Nat} (h : N ≠ 0) : dec N = dec (N / 10) ++ [dgt N] := by rw [dec, dif_neg h]
theorem dgt_val (d : Nat) : (dgt d).toNat = 48 + d % 10 := by
 unfold dgt
 rw [UInt8.toNat_ofNat']
 omega
def decT (z : Int) : List UInt8 := if z = 0 then [48] else (if z < 0 then [45] else []) ++ dec z.natAbs
def dnum (l : List UInt8) : Nat := l.foldl (fun n c => 10 * n + (c.toNat - 48)) 0
theorem dnum_snoc (l : List UInt8) (c : UInt8) : dnum (l ++ [c]) = 10 * dnum l + (c.toNat - 48) := by unfold dnum; rw [List.foldl_append]; rfl
theorem dnum_from (l : List UInt8) (a : Nat) : l.foldl (fun n c => 10 * n + (c.toNat - 48)) a = a * 10 ^ l.length + dnum l := by
 induction l generalizing a with
 | nil => simp [dnum]
 | cons c l ih =>
   rw [dnum, List.foldl_cons, List.foldl_cons, ih, ih (10 * 0 + (c.toNat - 48)), List.length_cons, Nat.pow_succ, Nat.add_mul, Nat.mul_zero, Nat.zero_add, Nat.mul_comm 10 a, Nat.mul_assoc, Nat.mul_comm 10 (10 ^ l.length)]
   omega
theorem dnum_app (l m : List UInt8) : dnum (l ++ m) = dnum l * 10 ^ m.length + dnum m := by
 rw [dnum, List.foldl_append, dnum_from]; rfl
def isD (c : UInt8) : Bool := decide (48 <= c.toNat) && decide (c.toNat <= 57)
theorem isD_iff (c : UInt8) : isD c = true ↔ 48 <= c.toNat /\ c.toNat <= 57 := by simp [isD]
theorem dnum_pos {c : UInt8} {l : List UInt8} (hc : isD c = true) (h0 : c ≠ 48) : 10 ^ l.length <= dnum (c :: l) := by
 have e : dnum (c :: l) = (c.toNat - 48) * 10 ^ l.length + dnum l := by
  have := dnum_app [c] l
  rw [List.singleton_append] at this
  rw [this]; simp [dnum]
 have b := (isD_iff c).1 hc
 have : c.toNat ≠ 48 := fun e => h0 (UInt8.toNat_inj.1 (by rw [e]; rfl))
 have : 1 * 10 ^ l.length <= (c.toNat - 48) * 10 ^ l.length := Nat.mul_le_mul_right _ (by omega)
 omega
def canon (l : List UInt8) : Bool := !l.isEmpty && (!(l.head? == some 48) || l == [48]) && l.all isD
theorem dec_head {N : Nat} (h : N ≠ 0) : ∃ c l, dec N = c :: l /\ c ≠ 48 := by
 induction N using Nat.strongRecOn with
 | _ N ih =>
   rw [dec_step h]
   by_cases h1 : N / 10 = 0
   . rw [h1, dec_zero]
     refine ⟨dgt N, [], rfl, fun e => ?_⟩
     have := congrArg UInt8.toNat e
     rw [dgt_val] at this
     have h48 : (48 : UInt8).toNat = 48 := rfl
     omega
   . obtain ⟨c, l, e, hc⟩ := ih (N / 10) (by omega) h1
     exact ⟨c, l ++ [dgt N], by rw [e]; rfl, hc⟩
theorem num_dec {l : List UInt8} (h : ∀ c ∈ l, isD c = true) (h0 : l.head? ≠ some 48) : dec (dnum l) = l := by
 induction hn : l.length generalizing l with
 | zero => rw [List.eq_nil_of_length_eq_zero hn]; exact dec_zero
 | succ n ih =>
   rcases List.eq_nil_or_concat l with rfl | ⟨m, c, rfl⟩
   . simp at hn
   . have hm : m.length = n := by simp at hn; exact hn
     have hc := (isD_iff c).1 (h c (by simp))
     have hh : m.head? ≠ some 48 := by
      cases m with
      | nil => simp
      | cons a m => simpa using h0
     have e := ih (l := m) (fun x hx => h x (by simp [hx])) hh hm
     rw [List.concat_eq_append] at *
     rw [dnum_snoc]
     have hne : 10 * dnum m + (c.toNat - 48) ≠ 0 := by
      cases m with
      | nil =>
        intro e
        have : c.toNat = 48 := by omega
        apply h0
        simp
        exact UInt8.toNat_inj.1 this
      | cons a m =>
        have := dnum_pos (l := m) (h a (by simp)) (fun e => h0 (by rw [e]; rfl))
        have : 0 < 10 ^ m.length := Nat.pow_pos (by decide)
        omega
     rw [dec_step hne, show (10 * dnum m + (c.toNat - 48)) / 10 = dnum m by omega, e]
     congr 2
     apply UInt8.toNat_inj.1
     rw [dgt_val]; omega
end Go.Proofs.YtmncfbfepdbioaaGreatDoor
namespace Go.Proofs.YtmncfbfepdbioaaGreatDoor
open Go.RowKit
theorem dec_len {N k : Nat} (h : N < 10 ^ k) : (dec N).length <= k := by
 induction k generalizing N with
 | zero => obtain rfl : N = 0 := by simpa using h
           rw [dec_zero]; simp
 | succ k ih =>
   by_cases h0 : N = 0
   . rw [h0, dec_zero]; simp
   . rw [dec_step h0, List.length_append]
     have := ih (N := N / 10) (by rw [Nat.pow_succ] at h; omega)
     simp; omega
theorem dec_ten (n : Nat) : 4294967296 ^ n <= 10 ^ (10 * n) := by rw [Nat.pow_mul]; exact Nat.pow_le_pow_left (by decide) n
theorem text_step {M g c N0 : Nat} {D : List UInt8} (hc : c < 9) (h : dec N0 = dec (M * 10 ^ (9 - c) + g) ++ D) (hp : 0 < M \/ 0 < g) (hg : g < 10 ^ (9 - c)) :
 dec N0 = dec (M * 10 ^ (9 - (c + 1)) + g / 10) ++ (dgt g :: D) /\ g / 10 < 10 ^ (9 - (c + 1)) /\ D.length + 1 <= (dec N0).length := by
 have e : (10 : Nat) ^ (9 - c) = 10 * 10 ^ (9 - (c + 1)) := by rw [show 9 - c = (9 - (c + 1)) + 1 by omega, Nat.pow_succ, Nat.mul_comm]
 rw [e] at h hg
 have e2 : M * (10 * 10 ^ (9 - (c + 1))) = 10 * (M * 10 ^ (9 - (c + 1))) := by rw [Nat.mul_left_comm]
 rw [e2] at h
 have hP : 0 < 10 ^ (9 - (c + 1)) := Nat.pow_pos (by decide)
 have hne : 10 * (M * 10 ^ (9 - (c + 1))) + g ≠ 0 := by
  rcases hp with hp | hp
  . have := Nat.mul_pos hp hP
    omega
  . omega
 rw [dec_step hne, show (10 * (M * 10 ^ (9 - (c + 1))) + g) / 10 = M * 10 ^ (9 - (c + 1)) + g / 10 by omega] at h
 have ed : dgt (10 * (M * 10 ^ (9 - (c + 1))) + g) = dgt g := by unfold dgt; rw [show (10 * (M * 10 ^ (9 - (c + 1))) + g) % 10 = g % 10 by omega]
 rw [ed, List.append_assoc, List.singleton_append] at h
 refine ⟨h, by omega, ?_⟩
 rw [h]; simp
def bc (bs : List UInt8) : Array Value := (bs.map fun b => Value.int .u8 (b.toNat : Int)).toArray
def Bb (w : World) (T : Nat) (bs : List UInt8) : Prop := Blk w T 5 (bc bs)
theorem Bb.cell {w : World} {T : Nat} {bs : List UInt8} (h : Bb w T bs) {i : Nat} (hi : i < bs.length) : w.cell? ⟨T, i, none⟩ = some (.int .u8 (bs[i].toNat : Int)) := by
 rw [Blk.cell h i]; simp [bc, hi]
theorem Bb.set {w : World} {T : Nat} {bs : List UInt8} (h : Bb w T bs) (i : Nat) (b : UInt8) : Bb (w.setCell ⟨T, i, none⟩ (.int .u8 (b.toNat : Int))) T (bs.set i b) := by
 have := Blk.set_ h i (.int .u8 (b.toNat : Int))
 unfold Bb
 have e : bc (bs.set i b) = (bc bs).setIfInBounds i (.int .u8 (b.toNat : Int)) := by
  unfold bc; rw [List.map_set]; simp
 rw [e]; exact this
theorem u8_info : (Tryz.prog.info? 5).map (fun i => (i.zero, i.size, i.bytes)) = some (some (.int .u8 0), 1, 1) := by kernel_rfl
theorem made_bytes (n : Nat) : madeCells #[.int .u8 0] n = bc (List.replicate n 0) := by
 unfold madeCells bc
 apply Array.ext
 . simp
 . intro i h1 h2
   simp [Nat.mod_one]
theorem make_bytes (L : Int) (n : Nat) (hL : L = n) (hn : n <= 35184372088832) (W : World) :
 (Instr.makeSlice 59 (.int .i64 L) (.int .i64 L)).run Tryz.prog W = .ok (.slice (some ⟨W.heap.size, 0, none⟩) n n) (W.alloc (.cells (bc (List.replicate n 0)) 5)) := by
 rw [hL, <- made_bytes]
 exact run_make_row' 59 5 (.int .u8 0) 1 Tryz.underlying59 u8_info rfl _ _ n (by omega) (by omega) W
theorem Bb.frozen {w : World} {T : Nat} {bs : List UInt8} (h : Bb w T bs) (i : Nat) : w.frozen? ⟨T, i, none⟩ = false := Blk.frozen h i
theorem str_nums (D : List UInt8) : strOfNums (D.map fun b => (b.toNat : Int)) = ⟨D.toArray⟩ := by
 have e : (D.map fun b => (b.toNat : Int)).map (fun n => UInt8.ofNat n.toNat) = D := by
  induction D with
  | nil => rfl
  | cons c D ih => rw [List.map_cons, List.map_cons, ih, Int.toNat_natCast, UInt8.ofNat_toNat]
 unfold strOfNums
 rw [e]
theorem Bb.conv {w : World} {T : Nat} {bs : List UInt8} (h : Bb w T bs) (q m : Nat) (D : List UInt8) (hd : bs.drop q = D) (hm : D.length = m) :
 (convert 59 9 (.slice (some ⟨T, q, none⟩) m m)).run Tryz.prog w = .ok (.string ⟨D.toArray⟩) w := by
 rw [<- str_nums]
 refine run_convert_bytes_arg (P := Tryz.prog) _ 59 5 Tryz.underlying59 Tryz.underlying5 T q m m (D.map fun b => (b.toNat : Int)) (by simpa using hm) ?_ 9 Tryz.underlying9
 intro i hi
 have hl : q + i < bs.length := by
  have := congrArg List.length hd
  rw [List.length_drop] at this
  omega
 rw [h.cell hl]
 congr 2
 subst hd
 simp [List.getD_eq_getElem?_getD]
 rw [List.getElem?_eq_getElem hl]
 rfl
structure Tx (w wr : World) (r T G n : Nat) (neg : Bool) (A : Option Addr) (c M k : Nat) (zr : List Nat) (q : Nat) (bs D : List UInt8) : Prop where
 bx : Bx wr r neg A n c
 rz : Row wr G zr
 oz : Ok zr
 lz : zr.length = n
 kn : k <= n
 nz : Nz (zr.take k)
 vm : val (zr.take k) = M
 bb : Bb wr T bs
 lb : bs.length = 10 * n + 1
 dr : bs.drop q = D
 hq : q + D.length = 10 * n + 1
 be : Below r w wr
theorem Tx.put {w wr : World} {r T G n : Nat} {neg : Bool} {A : Option Addr} {c M k : Nat} {zr : List Nat} {q : Nat} {bs D : List UInt8} (h : Tx w wr r T G n neg A c M k zr (q + 1) bs D) (b : UInt8) (h1 : r < T) (h2 : T ≠ G) :
 Tx w (wr.setCell ⟨T, q, none⟩ (.int .u8 (b.toNat : Int))) r T G n neg A c M k zr q (bs.set q b) (b :: D) := by
 refine ⟨Blk.far h.bx (p := ⟨T, q, none⟩) (by show r ≠ T; omega) _, h.rz.far (p := ⟨T, q, none⟩) h2.symm _, h.oz, h.lz, h.kn, h.nz, h.vm, h.bb.set q b, by rw [List.length_set]; exact h.lb, ?_, by have := h.hq; simp; omega, h.be.setCell (Nat.le_of_lt h1) _⟩
 have hl : q < bs.length := by have := h.lb; have := h.hq; omega
 rw [List.drop_eq_getElem_cons (by rw [List.length_set]; exact hl), List.getElem_set_self, List.drop_set_of_lt (by omega), h.dr]
theorem Tx.group {w wr w' : World} {r T G n : Nat} {neg : Bool} {A : Option Addr} {c M k k' M' : Nat} {zr zs : List Nat} {q : Nat} {bs D : List UInt8} (h : Tx w wr r T G n neg A c M k zr q bs D) (h1 : r < T) (h2 : T < G)
 (hg : wr.grownBy w' (some G)) (hr : Row w' G zs) (oz : Ok zs) (hs : Same zr zs 0 (0 + k)) (hk : k' <= k) (nz : Nz (zs.take k')) (hv : val (zs.take k') = M') : Tx w w' r T G n neg A c M' k' zs q bs D :=
 ⟨Blk.grown h.bx hg (by simp; omega), hr, oz, by rw [hs.1]; exact h.lz, Nat.le_trans hk h.kn, nz, hv, Blk.grown h.bb hg (by simp; omega), h.lb, h.dr, h.hq, below_grown h.be hg (by omega) (Nat.le_of_lt h.bx.lt)⟩
theorem text_good (neg : Bool) (A : Option Addr) (n c : Nat) (xs : List Nat) (w : World) (h : Sl w w.heap.size A n c xs) (hv : vld neg xs = true) (h0 : 0 < n) (N0 : Nat) (hN : val xs = N0) :
 Calls Tryz.prog 176 #[.agg #[.bool neg, .slice A n c]] w fun e w' => e = .returned (.tuple #[.string ⟨((if neg then [45] else []) ++ dec N0).toArray⟩, .int .i64 0]) /\ Below w.heap.size w w' := by
 have Hg := Lib.hid (vld_true hv)
 have hn : n <= 128 := by have := h.len; have := Hg.out.1; omega
 have HN := Lib.hid hN
 clear hN
 have i4 : ((n : Int) == 0) = false := by rw [beq_eq_false_iff_ne]; omega
 have hmk := make_bytes (10 * (n : Int) + 1) (10 * n + 1) (by omega) (by omega)
 go_enter Tryz.func176, Tryz.ntmps176
 go_wp2_with fail
 generalize hW : World.alloc w _ = W
 have hb : Below w.heap.size w W := by subst hW; exact (Below.refl _ _).alloc (Nat.le_refl _) _
 have b0 : Bx W w.heap.size neg A n c := by subst hW; exact Bx.new _ _ _ _ _
 have hs := h.on hb
 clear hW h
 generalize hr : w.heap.size = r at *
 have HR := Lib.hid hr
 clear hr
 refine (valid_any _ _ _ _ _ xs _ hs (Nat.le_refl _)).mono ?_
 rintro e w1 ⟨rfl, hb1⟩
 have HB := Lib.hid (below_chain hb (Nat.le_of_lt b0.lt) hb1)
 replace b0 := b0.below hb1 b0.lt
 replace hs := hs.on hb1
 clear hb hb1
 have k0 := b0.c0
 have k1 := b0.c1
 have l0 := b0.lt
 have bA := b0.alloc (.cells (bc (List.replicate (10 * n + 1) 0)) 5)
 have k0' := bA.c0
 have k1' := bA.c1
 go_wp2_with fail
 generalize hW : World.alloc w1 _ = W1
 have hbn : Below w1.heap.size w1 W1 := by rw [<- hW]; exact fresh_below _ _
 have t0 : Bb W1 w1.heap.size (List.replicate (10 * n + 1) 0) := by rw [<- hW]; exact Blk.new _ _ _
 replace HB := Lib.hid (below_chain HB.out (Nat.le_of_lt l0) hbn)
 have HT := Lib.hid l0
 replace b0 := b0.below hbn b0.lt
 replace hs := hs.on hbn
 clear hW hbn k0 k1 l0 bA k0' k1'
 generalize w1.heap.size = T at *
 refine (clone_any _ _ _ _ xs _ hs (Nat.le_refl _)).mono ?_
 rintro e w2 ⟨rfl, hrow, hb2⟩
 have HG := Lib.hid (show T < W1.heap.size from Blk.lt t0)
 have HX := Lib.hid (show Tx w w2 r T W1.heap.size n neg A c N0 n xs (10 * n + 1) (List.replicate (10 * n + 1) 0) [] from
  ⟨b0.below hb2 b0.lt, hrow, hs.ok, hs.len, Nat.le_refl _, by rw [List.take_of_length_le (by rw [hs.len]; exact Nat.le_refl _)]; exact Hg.out.2.1, by rw [List.take_of_length_le (by rw [hs.len]; exact Nat.le_refl _)]; exact HN.out, Blk.below t0 hb2 (Blk.lt t0), List.length_replicate, by rw [List.drop_of_length_le (by rw [List.length_replicate]; exact Nat.le_refl _)], rfl, below_chain HB.out (Nat.le_of_lt b0.lt) hb2⟩)
 have HL := Lib.hid (show (dec N0).length <= 10 * n from dec_len (by
  have := val_lt hs.ok
  rw [hs.len, HN.out] at this
  exact Nat.lt_of_lt_of_le this (dec_ten n)))
 generalize W1.heap.size = G at *
 clear hrow hb2 b0 t0 hs HB hmk
 go_wp2
 go_loopg [5, 6] N0 (fun gm s5 s6 wr => ∃ (M k q : Nat) (zr : List Nat) (bs D : List UInt8), s5 = .int .i64 q /\ s6 = .slice (some ⟨G, 0, none⟩) k n /\ M = gm /\ k <= n /\ Hid (Tx w wr r T G n neg A c M k zr q bs D) /\ Hid (dec N0 = dec M ++ D))
 case atStart => exact ⟨N0, n, 10 * n + 1, xs, _, [], by go_num, rfl, rfl, Nat.le_refl _, HX.out, by rw [Hid, List.append_nil]⟩
 case round =>
  obtain ⟨M, k, q, zr, bs, D, rfl, rfl, rfl, hkn, HTx, HD⟩ := hrel
  by_cases hk0 : k = 0
  . subst hk0
    have HM := Lib.hid (show dec N0 = D by
     have e := HTx.out.vm
     rw [List.take_zero, val_nil] at e
     rw [HD.out, <- e, dec_zero, List.nil_append])
    have hD : 0 < D.length := by
     rw [<- HM.out]
     obtain ⟨c1, l1, e, _⟩ := dec_head (N := N0) (by
      have := val_pos Hg.out.2.1 (by rintro rfl; have := HX.out.lz; simp at this; omega)
      rw [HN.out] at this
      omega)
     rw [e]; simp
    have b0 := HTx.out.bx
    have k0 := b0.c0
    have hq := HTx.out.hq
    have hqL : (q : Int) < ((10 * n + 1 : Nat) : Int) := by omega
    have hqn : ¬ 10 * n + 1 = q := by omega
    cases neg with
    | false =>
      have hcv := HTx.out.bb.conv q (10 * n + 1 - q) D HTx.out.dr (by omega)
      go_wp2
      go_ret2
      exact ⟨by rw [HM.out]; rfl, HR.out ▸ HTx.out.be⟩
    | true =>
      obtain ⟨p, rfl⟩ : ∃ p, q = p + 1 := ⟨q - 1, by have := HL.out; rw [HM.out] at this; omega⟩
      have HP := Lib.hid (HTx.out.put 45 HT.out (by have := HG.out; omega))
      have cp := HTx.out.bb.cell (i := p) (by rw [HTx.out.lb]; omega)
      have fp := HTx.out.bb.frozen p
      have hcv : (convert 59 9 (.slice (some ⟨T, p, none⟩) (10 * n + 1 - p) (10 * n + 1 - p))).run Tryz.prog (wr.setCell ⟨T, p, none⟩ (.int .u8 45)) = .ok (.string ⟨(45 :: D).toArray⟩) (wr.setCell ⟨T, p, none⟩ (.int .u8 45)) := HP.out.bb.conv p (10 * n + 1 - p) (45 :: D) HP.out.dr (by simp; omega)
      have i1 : ((p + 1 : Nat) : Int) - 1 = (p : Int) := by omega
      have i2 : (p : Int) < ((10 * n + 1 : Nat) : Int) := by omega
      have hpn : ¬ 10 * n + 1 = p := by omega
      go_wp2
      go_ret2
      exact ⟨by rw [HM.out]; rfl, HR.out ▸ HP.out.be⟩
  . have hk1 : (0 : Int) < (k : Int) := by omega
    go_wp2_with fail
    refine (divLimb_any G 0 k n 1000000000 zr _ HTx.out.rz (by rw [HTx.out.lz]; omega) HTx.out.oz (by omega) (by omega) (by omega)).mono ?_
    rintro e w3 ⟨zs, g, rfl, hg9, hr3, ho3, hs3, hv3, hg3⟩
    have H3 := Lib.hid (And.intro hs3 hv3)
    clear hs3 hv3
    have hz3 := hr3.lt
    have hsl := hr3.sl (B := w3.heap.size) (n := k) (c := n) hz3 0 (by rw [H3.out.1.1, HTx.out.lz]; omega) hkn (by omega) ho3
    rw [List.drop_zero] at hsl
    go_wp2_with fail
    refine (trim_any _ _ _ _ _ w3 hsl).mono ?_
    rintro e w4 ⟨⟨k', hk', rfl, hnz, hv4⟩, rfl⟩
    have e1 : (zs.take k).take k' = zs.take k' := by rw [List.take_take, Nat.min_eq_left hk']
    rw [e1] at hnz hv4
    obtain ⟨M', hM'⟩ : ∃ M', val (zs.take k') = M' := ⟨_, rfl⟩
    have HTx3 := Lib.hid (HTx.out.group HT.out HG.out hg3 hr3 ho3 H3.out.1 hk' hnz hM')
    have HMM := Lib.hid (show M = 1000000000 * M' + g /\ 0 < M from by
     have a := H3.out.2
     rw [wv_val, wv_val, HTx.out.vm, <- hv4, hM'] at a
     refine ⟨a, ?_⟩
     have := val_pos HTx.out.nz (by intro e; have := congrArg List.length e; rw [List.length_take, HTx.out.lz] at this; simp at this; omega)
     rwa [HTx.out.vm] at this)
    have HD3 := Lib.hid (show g < 10 ^ (9 - 0) /\ dec N0 = dec (M' * 10 ^ (9 - 0) + g) ++ D from ⟨hg9, by
     have := HD.out
     rw [HMM.out.1] at this
     rw [this, Nat.mul_comm 1000000000 M']⟩)
    have Hlt := Lib.hid (show M' < M from by have := HMM.out; omega)
    clear HMM e1 hnz hv4 hM' hsl hr3 ho3 hg3 hg9 HD HTx hz3 H3
    go_wp2
    go_loopg [5, 7, 8] 9 (fun m s5 s7 s8 wr => ∃ (c0 q g : Nat) (bs D : List UInt8), s5 = .int .i64 q /\ s7 = .int .u32 g /\ s8 = .int .i64 c0 /\ m = 9 - c0 /\ c0 <= 9 /\ g < 4294967296 /\ Hid (Tx w wr r T G n neg A c M' k' zs q bs D) /\ Hid (g < 10 ^ (9 - c0) /\ dec N0 = dec (M' * 10 ^ (9 - c0) + g) ++ D))
    case atStart => exact ⟨0, q, g, bs, D, rfl, rfl, by go_num, rfl, by omega, by have := HD3.out.1; omega, HTx3.out, HD3.out⟩
    case round =>
     clear HTx3 HD3
     obtain ⟨c0, q, g, bs, D, rfl, rfl, rfl, rfl, hc0, hg, HTx, HD⟩ := hrel
     by_cases hc9 : c0 < 9
     . have t1 : (c0 : Int) < 9 := by omega
       by_cases hp : 0 < k' \/ 0 < g
       . have hM0 : 0 < M' \/ 0 < g := by
          rcases hp with hp | hp
          . left
            have := val_pos HTx.out.nz (by intro e; have := congrArg List.length e; rw [List.length_take, HTx.out.lz] at this; simp at this; omega)
            rwa [HTx.out.vm] at this
          . exact .inr hp
         have HS := Lib.hid (text_step hc9 HD.out.2 hM0 HD.out.1)
         obtain ⟨p, rfl⟩ : ∃ p, q = p + 1 := ⟨q - 1, by have := HTx.out.hq; have := HS.out.2.2; have := HL.out; omega⟩
         have HP := Lib.hid (HTx.out.put (dgt g) HT.out (by have := HG.out; omega))
         have hpL : p < 10 * n + 1 := by have := HTx.out.hq; omega
         have cp := HTx.out.bb.cell (i := p) (by rw [HTx.out.lb]; exact hpL)
         have fp := HTx.out.bb.frozen p
         have i1 : ((p + 1 : Nat) : Int) - 1 = (p : Int) := by omega
         have i2 : (p : Int) < ((10 * n + 1 : Nat) : Int) := by omega
         have i3 : (48 : Int) + (g : Int) % 10 = ((dgt g).toNat : Int) := by rw [dgt_val]; omega
         have I3 := Lib.hid i3
         clear i3
         rcases Nat.eq_zero_or_pos k' with hk0' | hk0'
         . have t2 : (k' : Int) <= 0 := by omega
           have t3 : (0 : Int) < (g : Int) := by omega
           go_wp2
           rw [I3.out]
           go_roundg (9 - (c0 + 1))
           case measure => omega
           case rel => exact ⟨c0 + 1, p, g / 10, bs.set p (dgt g), dgt g :: D, rfl, by go_num, by go_num, rfl, by omega, by omega, HP.out, HS.out.2.1, HS.out.1⟩
         . have t2 : (0 : Int) < (k' : Int) := by omega
           go_wp2
           rw [I3.out]
           go_roundg (9 - (c0 + 1))
           case measure => omega
           case rel => exact ⟨c0 + 1, p, g / 10, bs.set p (dgt g), dgt g :: D, rfl, by go_num, by go_num, rfl, by omega, by omega, HP.out, HS.out.2.1, HS.out.1⟩
       . obtain rfl : k' = 0 := by omega
         have HE := Lib.hid (show dec N0 = dec M' ++ D from by
          have e := HTx.out.vm
          rw [List.take_zero, val_nil] at e
          obtain rfl : g = 0 := by omega
          have := HD.out.2
          rw [<- e, Nat.zero_mul, Nat.zero_add] at this
          rw [<- e]
          exact this)
         have t3 : (g : Int) <= 0 := by omega
         have hk'n := HTx.out.kn
         go_wp2
         go_roundg M'
         case measure => exact Hlt.out
         case rel => exact ⟨M', 0, q, zs, bs, D, rfl, rfl, rfl, hk'n, HTx.out, HE.out⟩
     . have HE := Lib.hid (show dec N0 = dec M' ++ D from by
        obtain rfl : c0 = 9 := by omega
        have := HD.out
        rw [Nat.sub_self, Nat.pow_zero, Nat.mul_one] at this
        obtain rfl : g = 0 := by omega
        exact this.2)
       have t1 : (9 : Int) <= (c0 : Int) := by omega
       have hk'n := HTx.out.kn
       go_wp2
       go_roundg M'
       case measure => exact Hlt.out
       case rel => exact ⟨M', k', q, zs, bs, D, rfl, rfl, rfl, hk'n, HTx.out, HE.out⟩
end Go.Proofs.YtmncfbfepdbioaaGreatDoor
namespace Go.Proofs.YtmncfbfepdbioaaGreatDoor
open Go.RowKit
theorem canon_lead {l : List UInt8} (h : l ≠ []) : canon (48 :: l) = false := by
 unfold canon
 have : ((48 :: l) == [48]) = false := by
  rw [beq_eq_false_iff_ne]
  intro e
  injection e with _ e
  exact h e
 rw [this]; simp
def prs (l : List UInt8) : Option Int :=
 if canon (Lib.trimPrefix l [45]) && !(Lib.hasPrefix l [45] && Lib.trimPrefix l [45] == [48]) then some (sg (Lib.hasPrefix l [45]) (dnum (Lib.trimPrefix l [45]))) else none
end Go.Proofs.YtmncfbfepdbioaaGreatDoor
namespace Go.Proofs.YtmncfbfepdbioaaGreatDoor
open Go.RowKit
theorem canon_all {l : List UInt8} (h : canon l = true) : ∀ x ∈ l, isD x = true := by
 unfold canon at h
 rw [Bool.and_eq_true] at h
 exact List.all_eq_true.1 h.2
theorem head_pos {l : List UInt8} {m : Nat} (h : canon l = true) (h1 : l ≠ [48]) (hm : 1 <= m) : 0 < dnum (l.take m) := by
 rcases l with _ | ⟨c, t⟩
 . cases h
 . have hc : c ≠ 48 := by
    rintro rfl
    by_cases ht : t = []
    . exact h1 (by rw [ht])
    . rw [canon_lead ht] at h; cases h
   obtain ⟨j, rfl⟩ : ∃ j, m = j + 1 := ⟨m - 1, by omega⟩
   rw [List.take_succ_cons]
   exact Nat.lt_of_lt_of_le (Nat.pow_pos (by decide)) (dnum_pos (canon_all h c (by simp)) hc)
end Go.Proofs.YtmncfbfepdbioaaGreatDoor
namespace Go.Proofs.YtmncfbfepdbioaaGreatDoor
open Go.RowKit
def txB : Option Int -> List UInt8
 | none => []
 | some z => decT z
def txE : Option Int -> Int
 | none => 1
 | some _ => 0
theorem text_bad (neg : Bool) (A : Option Addr) (n c : Nat) (xs : List Nat) (w : World) (h : Sl w w.heap.size A n c xs) (hv : vld neg xs = false) :
 Calls Tryz.prog 176 #[.agg #[.bool neg, .slice A n c]] w fun e w' => e = .returned (.tuple #[.string ⟨#[]⟩, .int .i64 1]) /\ Below w.heap.size w w' := by
 go_enter Tryz.func176, Tryz.ntmps176
 go_wp2_with fail
 generalize hW : World.alloc w _ = W
 have hb : Below w.heap.size w W := by subst hW; exact (Below.refl _ _).alloc (Nat.le_refl _) _
 have hs := h.on hb
 clear hW
 refine (valid_any _ _ _ _ _ xs _ hs (Nat.le_refl _)).mono ?_
 rintro e w1 ⟨rfl, hb1⟩
 have HB := Lib.hid (below_chain hb hb.size hb1)
 rw [hv]
 go_wp2
 go_ret2
 exact ⟨rfl, HB.out⟩
theorem text_nil (neg : Bool) (A : Option Addr) (c : Nat) (w : World) (h : Sl w w.heap.size A 0 c []) (hv : vld neg [] = true) :
 Calls Tryz.prog 176 #[.agg #[.bool neg, .slice A 0 c]] w fun e w' => e = .returned (.tuple #[.string ⟨#[48]⟩, .int .i64 0]) /\ Below w.heap.size w w' := by
 go_enter Tryz.func176, Tryz.ntmps176
 go_wp2_with fail
 generalize hW : World.alloc w _ = W
 have hb : Below w.heap.size w W := by subst hW; exact (Below.refl _ _).alloc (Nat.le_refl _) _
 have b0 : Bx W w.heap.size neg A 0 c := by subst hW; exact Bx.new _ _ _ _ _
 have hs := h.on hb
 clear hW
 refine (valid_any _ _ _ _ _ [] _ hs (Nat.le_refl _)).mono ?_
 rintro e w1 ⟨rfl, hb1⟩
 have HB := Lib.hid (below_chain hb hb.size hb1)
 have b0 := b0.below hb1 b0.lt
 have k0 := b0.c0
 have k1 := b0.c1
 rw [hv]
 go_wp2
 go_ret2
 exact ⟨rfl, HB.out⟩
theorem text_ov {neg : Bool} {A : Option Addr} {n c : Nat} {xs : List Nat} {w : World} (h : Sl w w.heap.size A n c xs) :
 Calls Tryz.prog 176 #[.agg #[.bool neg, .slice A n c]] w fun e w' => e = .returned (.tuple #[.string ⟨(txB (ov neg xs)).toArray⟩, .int .i64 (txE (ov neg xs))]) /\ Below w.heap.size w w' := by
 rcases hv : vld neg xs with _ | _
 . rw [ov_none hv]
   exact text_bad neg A n c xs w h hv
 . rw [ov_some hv]
   have hl := h.len
   by_cases h0 : n = 0
   . subst h0
     obtain rfl := List.eq_nil_of_length_eq_zero hl
     have e : sg neg (val []) = 0 := by rw [(vld_true hv).2.2 rfl]; rfl
     rw [e]
     exact text_nil neg A c w h hv
   . have hp : 0 < val xs := val_pos (vld_true hv).2.1 (by rintro rfl; simp at hl; omega)
     have e : txB (some (sg neg (val xs))) = (if neg then [45] else []) ++ dec (val xs) := by
      show decT _ = _
      unfold decT
      cases neg
      . rw [sg_false, if_neg (by omega), if_neg (by omega)]; rfl
      . rw [sg_true, if_neg (by omega), if_pos (by omega), show (-(val xs : Int)).natAbs = val xs by omega]; rfl
     rw [e]
     exact text_good neg A n c xs w h hv (by omega) (val xs) rfl
theorem has_minus (l : List UInt8) : Lib.hasPrefix (45 :: l) [45] = true /\ Lib.trimPrefix (45 :: l) [45] = l := by
 have e : Lib.hasPrefix (45 :: l) [45] = true := by simp [Lib.hasPrefix]
 exact ⟨e, by unfold Lib.trimPrefix; rw [if_pos e]; rfl⟩
theorem no_minus {l : List UInt8} (h : l.head? ≠ some 45) : Lib.hasPrefix l [45] = false /\ Lib.trimPrefix l [45] = l := by
 have e : Lib.hasPrefix l [45] = false := by
  unfold Lib.hasPrefix
  rcases l with _ | ⟨c, l⟩
  . rfl
  . have : c ≠ 45 := fun e => h (by rw [e]; rfl)
    simp only [List.isPrefixOf_cons_cons, Bool.and_eq_false_iff, beq_eq_false_iff_ne]
    exact .inl (fun e => this e.symm)
 exact ⟨e, by unfold Lib.trimPrefix; rw [e]; rfl⟩
theorem minus_or (l : List UInt8) : (∃ t, l = 45 :: t) \/ l.head? ≠ some 45 := by
 rcases l with _ | ⟨c, l⟩
 . right; simp
 . by_cases h : c = 45
   . left; exact ⟨l, by rw [h]⟩
   . right; simpa using h
theorem num_canon {l : List UInt8} (h : canon l = true) (h1 : l ≠ [48]) : dec (dnum l) = l /\ 0 < dnum l := by
 have hp := head_pos h h1 (m := l.length) (by
  rcases l with _ | ⟨c, t⟩
  . cases h
  . simp)
 rw [List.take_length] at hp
 refine ⟨num_dec (canon_all h) ?_, hp⟩
 rcases l with _ | ⟨c, t⟩
 . simp
 . intro e
   have e2 : c = 48 := by simpa using e
   subst e2
   by_cases ht : t = []
   . exact h1 (by rw [ht])
   . rw [canon_lead ht] at h; cases h
theorem decT_prs {l : List UInt8} {z : Int} (h : prs l = some z) : decT z = l := by
 unfold prs at h
 split at h
 . rename_i hc
   rw [Bool.and_eq_true] at hc
   injection h with h
   rcases minus_or l with ⟨t, rfl⟩ | hm
   . have m := has_minus t
     rw [m.1, m.2] at h hc
     have ht : t ≠ [48] := by
      rintro rfl
      exact absurd hc.2 (by decide)
     have q := num_canon hc.1 ht
     rw [sg_true] at h
     unfold decT
     rw [if_neg (by omega), if_pos (by omega), show z.natAbs = dnum t by omega, q.1]
     rfl
   . have m := no_minus hm
     rw [m.1, m.2] at h hc
     rw [sg_false] at h
     by_cases h48 : l = [48]
     . subst h48
       have : z = 0 := by rw [<- h]; rfl
       rw [this]; rfl
     . have q := num_canon hc.1 h48
       unfold decT
       rw [if_neg (by omega), if_neg (by omega), show z.natAbs = dnum l by omega, q.1]
       rfl
 . cases h
end Go.Proofs.YtmncfbfepdbioaaGreatDoor
