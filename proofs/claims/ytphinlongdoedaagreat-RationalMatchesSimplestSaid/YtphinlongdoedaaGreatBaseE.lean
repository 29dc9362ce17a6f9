/-
 Written by mkbase.py: TextQ.
-/
import Derived.Deep.DeepCutAuto
import Derived.Lib.PathFns
import Derived.Lib.IndexBytes
import Derived.Test.YtphinlongdoedaaGreatBaseC
namespace Go.Proofs.YtphinlongdoedaaGreat
open Go.RowKit
set_option maxHeartbeats 2000000
def dgt (d : Nat) : UInt8 := UInt8.ofNat (48 + d % 10)
def dec (N : Nat) : List UInt8 := if _h : N = 0 then [] else dec (N / 10) ++ [dgt N]
termination_by N
decreasing_by omega
theorem zP2 : dec 0 = [] := by rw [dec, dif_pos rfl]
theorem zS0 {N : Nat} (h : N ≠ 0) : dec N = dec (N / 10) ++ [dgt N] := by rw [dec, dif_neg h]
theorem dgt_val (d : Nat) : (dgt d).toNat = 48 + d % 10 := by
 unfold dgt
 rw [UInt8.toNat_ofNat']
 omega
def decT (z : Int) : List UInt8 := if z = 0 then [48] else (if z < 0 then [45] else []) ++ dec z.natAbs
def dnum (l : List UInt8) : Nat := l.foldl (fun n c => 10 * n + (c.toNat - 48)) 0
theorem dnum_nil : dnum [] = 0 := rfl
theorem dnum_snoc (l : List UInt8) (c : UInt8) : dnum (l ++ [c]) = 10 * dnum l + (c.toNat - 48) := by unfold dnum; rw [List.foldl_append]; rfl
theorem dnum_from (l : List UInt8) (a : Nat) : l.foldl (fun n c => 10 * n + (c.toNat - 48)) a = a * 10 ^ l.length + dnum l := by
 induction l generalizing a with
 | nil => simp [dnum]
 | cons c l ih =>
   rw [dnum, List.foldl_cons, List.foldl_cons, ih, ih (10 * 0 + (c.toNat - 48)), List.length_cons, Nat.pow_succ, Nat.add_mul, Nat.mul_zero, Nat.zero_add, Nat.mul_comm 10 a, Nat.mul_assoc, Nat.mul_comm 10 (10 ^ l.length)]
   omega
theorem dnum_app (l m : List UInt8) : dnum (l ++ m) = dnum l * 10 ^ m.length + dnum m := by
 rw [dnum, List.foldl_append, dnum_from]; rfl
def isD (c : UInt8) : Bool := decide (48 <= c.toNat) && decide (c.toNat <= 57)
theorem zQ1 (c : UInt8) : isD c = true ↔ 48 <= c.toNat /\ c.toNat <= 57 := by simp [isD]
theorem dnum_lt {l : List UInt8} (h : ∀ c ∈ l, isD c = true) : dnum l < 10 ^ l.length := by
 induction l with
 | nil => simp [dnum]
 | cons c l ih =>
   have a := ih (fun x hx => h x (by simp [hx]))
   have b := (zQ1 c).1 (h c (by simp))
   have e : dnum (c :: l) = (c.toNat - 48) * 10 ^ l.length + dnum l := by
    have := dnum_app [c] l
    rw [List.singleton_append] at this
    rw [this]; simp [dnum]
   rw [e, List.length_cons, Nat.pow_succ]
   have : (c.toNat - 48) * 10 ^ l.length <= 9 * 10 ^ l.length := Nat.mul_le_mul_right _ (by omega)
   omega
theorem dnum_pos {c : UInt8} {l : List UInt8} (hc : isD c = true) (h0 : c ≠ 48) : 10 ^ l.length <= dnum (c :: l) := by
 have e : dnum (c :: l) = (c.toNat - 48) * 10 ^ l.length + dnum l := by
  have := dnum_app [c] l
  rw [List.singleton_append] at this
  rw [this]; simp [dnum]
 have b := (zQ1 c).1 hc
 have : c.toNat ≠ 48 := fun e => h0 (UInt8.toNat_inj.1 (by rw [e]; rfl))
 have : 1 * 10 ^ l.length <= (c.toNat - 48) * 10 ^ l.length := Nat.mul_le_mul_right _ (by omega)
 omega
def zK8 (l : List UInt8) : Bool := !l.isEmpty && (!(l.head? == some 48) || l == [48]) && l.all isD
theorem dec_head {N : Nat} (h : N ≠ 0) : ∃ c l, dec N = c :: l /\ c ≠ 48 := by
 induction N using Nat.strongRecOn with
 | _ N ih =>
   rw [zS0 h]
   by_cases h1 : N / 10 = 0
   . rw [h1, zP2]
     refine ⟨dgt N, [], rfl, fun e => ?_⟩
     have := congrArg UInt8.toNat e
     rw [dgt_val] at this
     have h48 : (48 : UInt8).toNat = 48 := rfl
     omega
   . obtain ⟨c, l, e, hc⟩ := ih (N / 10) (by omega) h1
     exact ⟨c, l ++ [dgt N], by rw [e]; rfl, hc⟩
theorem num_dec {l : List UInt8} (h : ∀ c ∈ l, isD c = true) (h0 : l.head? ≠ some 48) : dec (dnum l) = l := by
 induction hn : l.length generalizing l with
 | zero => rw [List.eq_nil_of_length_eq_zero hn]; exact zP2
 | succ n ih =>
   rcases List.eq_nil_or_concat l with rfl | ⟨m, c, rfl⟩
   . simp at hn
   . have hm : m.length = n := by simp at hn; exact hn
     have hc := (zQ1 c).1 (h c (by simp))
     have hh : m.head? ≠ some 48 := by
      cases m with
      | nil => simp
      | cons a m => simpa using h0
     have e := ih (l := m) (fun x hx => h x (by simp [hx])) hh hm
     rw [List.concat_eq_append] at *
     rw [dnum_snoc]
     have hne : 10 * dnum m + (c.toNat - 48) ≠ 0 := by
      cases m with
      | nil =>
        intro e
        have : c.toNat = 48 := by omega
        apply h0
        simp
        exact UInt8.toNat_inj.1 this
      | cons a m =>
        have := dnum_pos (l := m) (h a (by simp)) (fun e => h0 (by rw [e]; rfl))
        have : 0 < 10 ^ m.length := Nat.pow_pos (by decide)
        omega
     rw [zS0 hne, show (10 * dnum m + (c.toNat - 48)) / 10 = dnum m by omega, e]
     congr 2
     apply UInt8.toNat_inj.1
     rw [dgt_val]; omega
theorem dec_len {N k : Nat} (h : N < 10 ^ k) : (dec N).length <= k := by
 induction k generalizing N with
 | zero => obtain rfl : N = 0 := by simpa using h
           rw [zP2]; simp
 | succ k ih =>
   by_cases h0 : N = 0
   . rw [h0, zP2]; simp
   . rw [zS0 h0, List.length_append]
     have := ih (N := N / 10) (by rw [Nat.pow_succ] at h; omega)
     simp; omega
theorem dec_ten (n : Nat) : 4294967296 ^ n <= 10 ^ (10 * n) := by rw [Nat.pow_mul]; exact Nat.pow_le_pow_left (by decide) n
theorem text_step {M g c N0 : Nat} {D : List UInt8} (hc : c < 9) (h : dec N0 = dec (M * 10 ^ (9 - c) + g) ++ D) (hp : 0 < M \/ 0 < g) (hg : g < 10 ^ (9 - c)) :
 dec N0 = dec (M * 10 ^ (9 - (c + 1)) + g / 10) ++ (dgt g :: D) /\ g / 10 < 10 ^ (9 - (c + 1)) /\ D.length + 1 <= (dec N0).length := by
 have e : (10 : Nat) ^ (9 - c) = 10 * 10 ^ (9 - (c + 1)) := by rw [show 9 - c = (9 - (c + 1)) + 1 by omega, Nat.pow_succ, Nat.mul_comm]
 rw [e] at h hg
 have e2 : M * (10 * 10 ^ (9 - (c + 1))) = 10 * (M * 10 ^ (9 - (c + 1))) := by rw [Nat.mul_left_comm]
 rw [e2] at h
 have hP : 0 < 10 ^ (9 - (c + 1)) := Nat.pow_pos (by decide)
 have hne : 10 * (M * 10 ^ (9 - (c + 1))) + g ≠ 0 := by
  rcases hp with hp | hp
  . have := Nat.mul_pos hp hP
    omega
  . omega
 rw [zS0 hne, show (10 * (M * 10 ^ (9 - (c + 1))) + g) / 10 = M * 10 ^ (9 - (c + 1)) + g / 10 by omega] at h
 have ed : dgt (10 * (M * 10 ^ (9 - (c + 1))) + g) = dgt g := by unfold dgt; rw [show (10 * (M * 10 ^ (9 - (c + 1))) + g) % 10 = g % 10 by omega]
 rw [ed, List.append_assoc, List.singleton_append] at h
 refine ⟨h, by omega, ?_⟩
 rw [h]; simp
def bc (bs : List UInt8) : Array Value := (bs.map fun b => Value.int .u8 (b.toNat : Int)).toArray
def Bb (w : World) (T : Nat) (bs : List UInt8) : Prop := Blk w T 5 (bc bs)
theorem Bb.cell {w : World} {T : Nat} {bs : List UInt8} (h : Bb w T bs) {i : Nat} (hi : i < bs.length) : w.cell? ⟨T, i, none⟩ = some (.int .u8 (bs[i].toNat : Int)) := by
 rw [Blk.cell h i]; simp [bc, hi]
theorem Bb.set {w : World} {T : Nat} {bs : List UInt8} (h : Bb w T bs) (i : Nat) (b : UInt8) : Bb (w.setCell ⟨T, i, none⟩ (.int .u8 (b.toNat : Int))) T (bs.set i b) := by
 have := Blk.set_ h i (.int .u8 (b.toNat : Int))
 unfold Bb
 have e : bc (bs.set i b) = (bc bs).setIfInBounds i (.int .u8 (b.toNat : Int)) := by
  unfold bc; rw [List.map_set]; simp
 rw [e]; exact this
theorem u8_info : (Tryz.prog.info? 5).map (fun i => (i.zero, i.size, i.bytes)) = some (some (.int .u8 0), 1, 1) := by kernel_rfl
theorem made_bytes (n : Nat) : madeCells #[.int .u8 0] n = bc (List.replicate n 0) := by
 unfold madeCells bc
 apply Array.ext
 . simp
 . intro i h1 h2
   simp [Nat.mod_one]
theorem make_bytes (L : Int) (n : Nat) (hL : L = n) (hn : n <= 35184372088832) (W : World) :
 (Instr.makeSlice 87 (.int .i64 L) (.int .i64 L)).run Tryz.prog W = .ok (.slice (some ⟨W.heap.size, 0, none⟩) n n) (W.alloc (.cells (bc (List.replicate n 0)) 5)) := by
 rw [hL, <- made_bytes]
 exact run_make_row' 87 5 (.int .u8 0) 1 Tryz.underlying87 u8_info rfl _ _ n (by omega) (by omega) W
theorem Bb.frozen {w : World} {T : Nat} {bs : List UInt8} (h : Bb w T bs) (i : Nat) : w.frozen? ⟨T, i, none⟩ = false := Blk.frozen h i
theorem str_nums (D : List UInt8) : strOfNums (D.map fun b => (b.toNat : Int)) = ⟨D.toArray⟩ := by
 have e : (D.map fun b => (b.toNat : Int)).map (fun n => UInt8.ofNat n.toNat) = D := by
  induction D with
  | nil => rfl
  | cons c D ih => rw [List.map_cons, List.map_cons, ih, Int.toNat_natCast, UInt8.ofNat_toNat]
 unfold strOfNums
 rw [e]
theorem Bb.conv {w : World} {T : Nat} {bs : List UInt8} (h : Bb w T bs) (q m : Nat) (D : List UInt8) (hd : bs.drop q = D) (hm : D.length = m) :
 (convert 87 9 (.slice (some ⟨T, q, none⟩) m m)).run Tryz.prog w = .ok (.string ⟨D.toArray⟩) w := by
 rw [<- str_nums]
 refine run_convert_bytes_arg (P := Tryz.prog) _ 87 5 Tryz.underlying87 Tryz.underlying5 T q m m (D.map fun b => (b.toNat : Int)) (by simpa using hm) ?_ 9 Tryz.underlying9
 intro i hi
 have hl : q + i < bs.length := by
  have := congrArg List.length hd
  rw [List.length_drop] at this
  omega
 rw [h.cell hl]
 congr 2
 subst hd
 simp [List.getD_eq_getElem?_getD]
 rw [List.getElem?_eq_getElem hl]
 rfl
structure Tx (w wr : World) (r T G n : Nat) (neg : Bool) (A : Option Addr) (c M k : Nat) (zr : List Nat) (q : Nat) (bs D : List UInt8) : Prop where
 bx : Bx wr r neg A n c
 rz : Row wr G zr
 oz : Ok zr
 lz : zr.length = n
 kn : k <= n
 nz : Nz (zr.take k)
 vm : val (zr.take k) = M
 bb : Bb wr T bs
 lb : bs.length = 10 * n + 1
 dr : bs.drop q = D
 hq : q + D.length = 10 * n + 1
 be : Below r w wr
theorem Tx.put {w wr : World} {r T G n : Nat} {neg : Bool} {A : Option Addr} {c M k : Nat} {zr : List Nat} {q : Nat} {bs D : List UInt8} (h : Tx w wr r T G n neg A c M k zr (q + 1) bs D) (b : UInt8) (h1 : r < T) (h2 : T ≠ G) :
 Tx w (wr.setCell ⟨T, q, none⟩ (.int .u8 (b.toNat : Int))) r T G n neg A c M k zr q (bs.set q b) (b :: D) := by
 refine ⟨Blk.far h.bx (p := ⟨T, q, none⟩) (by show r ≠ T; omega) _, h.rz.far (p := ⟨T, q, none⟩) h2.symm _, h.oz, h.lz, h.kn, h.nz, h.vm, h.bb.set q b, by rw [List.length_set]; exact h.lb, ?_, by have := h.hq; simp; omega, h.be.setCell (Nat.le_of_lt h1) _⟩
 have hl : q < bs.length := by have := h.lb; have := h.hq; omega
 rw [List.drop_eq_getElem_cons (by rw [List.length_set]; exact hl), List.getElem_set_self, List.drop_set_of_lt (by omega), h.dr]
theorem Tx.group {w wr w' : World} {r T G n : Nat} {neg : Bool} {A : Option Addr} {c M k k' M' : Nat} {zr zs : List Nat} {q : Nat} {bs D : List UInt8} (h : Tx w wr r T G n neg A c M k zr q bs D) (h1 : r < T) (h2 : T < G)
 (hg : wr.grownBy w' (some G)) (hr : Row w' G zs) (oz : Ok zs) (hs : Same zr zs 0 (0 + k)) (hk : k' <= k) (nz : Nz (zs.take k')) (hv : val (zs.take k') = M') : Tx w w' r T G n neg A c M' k' zs q bs D :=
 ⟨Blk.grown h.bx hg (by simp; omega), hr, oz, by rw [hs.1]; exact h.lz, Nat.le_trans hk h.kn, nz, hv, Blk.grown h.bb hg (by simp; omega), h.lb, h.dr, h.hq, zB3 h.be hg (by omega) (Nat.le_of_lt h.bx.lt)⟩
theorem text_good (neg : Bool) (A : Option Addr) (n c : Nat) (xs : List Nat) (w : World) (h : Sl w w.heap.size A n c xs) (hv : vld neg xs = true) (h0 : 0 < n) (N0 : Nat) (hN : val xs = N0) :
 Calls Tryz.prog 36 #[.agg #[.bool neg, .slice A n c]] w fun e w' => e = .returned (.tuple #[.string ⟨((if neg then [45] else []) ++ dec N0).toArray⟩, .int .i64 0]) /\ Below w.heap.size w w' := by
 have Hg := hI (zA2 hv)
 have hn : n <= 128 := by have := h.len; have := Hg.out.1; omega
 have HN := hI hN
 clear hN
 have i4 : ((n : Int) == 0) = false := by rw [beq_eq_false_iff_ne]; omega
 have hmk := make_bytes (10 * (n : Int) + 1) (10 * n + 1) (by omega) (by omega)
 go_enter Tryz.func36, Tryz.ntmps36
 go_wp2_with fail
 generalize hW : World.alloc w _ = W
 have hb : Below w.heap.size w W := by subst hW; exact (Below.refl _ _).alloc (Nat.le_refl _) _
 have b0 : Bx W w.heap.size neg A n c := by subst hW; exact Bx.new _ _ _ _ _
 have hs := h.on hb
 clear hW h
 generalize hr : w.heap.size = r at *
 have HR := hI hr
 clear hr
 refine (zA4 _ _ _ _ _ xs _ hs (Nat.le_refl _)).mono ?_
 rintro e w1 ⟨rfl, hb1⟩
 have HB := hI (zA hb (Nat.le_of_lt b0.lt) hb1)
 replace b0 := b0.below hb1 b0.lt
 replace hs := hs.on hb1
 clear hb hb1
 have k0 := b0.c0
 have k1 := b0.c1
 have l0 := b0.lt
 have bA := b0.alloc (.cells (bc (List.replicate (10 * n + 1) 0)) 5)
 have k0' := bA.c0
 have k1' := bA.c1
 go_wp2_with fail
 generalize hW : World.alloc w1 _ = W1
 have hbn : Below w1.heap.size w1 W1 := by rw [<- hW]; exact zB5 _ _
 have t0 : Bb W1 w1.heap.size (List.replicate (10 * n + 1) 0) := by rw [<- hW]; exact Blk.new _ _ _
 replace HB := hI (zA HB.out (Nat.le_of_lt l0) hbn)
 have HT := hI l0
 replace b0 := b0.below hbn b0.lt
 replace hs := hs.on hbn
 clear hW hbn k0 k1 l0 bA k0' k1'
 generalize w1.heap.size = T at *
 refine (zG4 _ _ _ _ xs _ hs (Nat.le_refl _)).mono ?_
 rintro e w2 ⟨rfl, hrow, hb2⟩
 have HG := hI (show T < W1.heap.size from Blk.lt t0)
 have HX := hI (show Tx w w2 r T W1.heap.size n neg A c N0 n xs (10 * n + 1) (List.replicate (10 * n + 1) 0) [] from
  ⟨b0.below hb2 b0.lt, hrow, hs.ok, hs.len, Nat.le_refl _, by rw [List.take_of_length_le (by rw [hs.len]; exact Nat.le_refl _)]; exact Hg.out.2.1, by rw [List.take_of_length_le (by rw [hs.len]; exact Nat.le_refl _)]; exact HN.out, Blk.below t0 hb2 (Blk.lt t0), List.length_replicate, by rw [List.drop_of_length_le (by rw [List.length_replicate]; exact Nat.le_refl _)], rfl, zA HB.out (Nat.le_of_lt b0.lt) hb2⟩)
 have HL := hI (show (dec N0).length <= 10 * n from dec_len (by
  have := zD hs.ok
  rw [hs.len, HN.out] at this
  exact Nat.lt_of_lt_of_le this (dec_ten n)))
 generalize W1.heap.size = G at *
 clear hrow hb2 b0 t0 hs HB hmk
 go_wp2
 go_loopg [5, 6] N0 (fun gm s5 s6 wr => ∃ (M k q : Nat) (zr : List Nat) (bs D : List UInt8), s5 = .int .i64 q /\ s6 = .slice (some ⟨G, 0, none⟩) k n /\ M = gm /\ k <= n /\ Hid (Tx w wr r T G n neg A c M k zr q bs D) /\ Hid (dec N0 = dec M ++ D))
 case atStart => exact ⟨N0, n, 10 * n + 1, xs, _, [], by go_num, rfl, rfl, Nat.le_refl _, HX.out, by rw [Hid, List.append_nil]⟩
 case round =>
  obtain ⟨M, k, q, zr, bs, D, rfl, rfl, rfl, hkn, HTx, HD⟩ := hrel
  by_cases hk0 : k = 0
  . subst hk0
    have HM := hI (show dec N0 = D by
     have e := HTx.out.vm
     rw [List.take_zero, zD6] at e
     rw [HD.out, <- e, zP2, List.nil_append])
    have hD : 0 < D.length := by
     rw [<- HM.out]
     obtain ⟨c1, l1, e, _⟩ := dec_head (N := N0) (by
      have := zB4 Hg.out.2.1 (by rintro rfl; have := HX.out.lz; simp at this; omega)
      rw [HN.out] at this
      omega)
     rw [e]; simp
    have b0 := HTx.out.bx
    have k0 := b0.c0
    have hq := HTx.out.hq
    have hqL : (q : Int) < ((10 * n + 1 : Nat) : Int) := by omega
    have hqn : ¬ 10 * n + 1 = q := by omega
    cases neg with
    | false =>
      have hcv := HTx.out.bb.conv q (10 * n + 1 - q) D HTx.out.dr (by omega)
      go_wp2
      go_ret2
      exact ⟨by rw [HM.out]; rfl, HR.out ▸ HTx.out.be⟩
    | true =>
      obtain ⟨p, rfl⟩ : ∃ p, q = p + 1 := ⟨q - 1, by have := HL.out; rw [HM.out] at this; omega⟩
      have HP := hI (HTx.out.put 45 HT.out (by have := HG.out; omega))
      have cp := HTx.out.bb.cell (i := p) (by rw [HTx.out.lb]; omega)
      have fp := HTx.out.bb.frozen p
      have hcv : (convert 87 9 (.slice (some ⟨T, p, none⟩) (10 * n + 1 - p) (10 * n + 1 - p))).run Tryz.prog (wr.setCell ⟨T, p, none⟩ (.int .u8 45)) = .ok (.string ⟨(45 :: D).toArray⟩) (wr.setCell ⟨T, p, none⟩ (.int .u8 45)) := HP.out.bb.conv p (10 * n + 1 - p) (45 :: D) HP.out.dr (by simp; omega)
      have i1 : ((p + 1 : Nat) : Int) - 1 = (p : Int) := by omega
      have i2 : (p : Int) < ((10 * n + 1 : Nat) : Int) := by omega
      have hpn : ¬ 10 * n + 1 = p := by omega
      go_wp2
      go_ret2
      exact ⟨by rw [HM.out]; rfl, HR.out ▸ HP.out.be⟩
  . have hk1 : (0 : Int) < (k : Int) := by omega
    go_wp2_with fail
    refine (zU G 0 k n 1000000000 zr _ HTx.out.rz (by rw [HTx.out.lz]; omega) HTx.out.oz (by omega) (by omega) (by omega)).mono ?_
    rintro e w3 ⟨zs, g, rfl, hg9, hr3, ho3, hs3, hv3, hg3⟩
    have H3 := hI (And.intro hs3 hv3)
    clear hs3 hv3
    have hz3 := hr3.lt
    have hsl := hr3.sl (B := w3.heap.size) (n := k) (c := n) hz3 0 (by rw [H3.out.1.1, HTx.out.lz]; omega) hkn (by omega) ho3
    rw [List.drop_zero] at hsl
    go_wp2_with fail
    refine (zE5 _ _ _ _ _ w3 hsl).mono ?_
    rintro e w4 ⟨⟨k', hk', rfl, hnz, hv4⟩, rfl⟩
    have e1 : (zs.take k).take k' = zs.take k' := by rw [List.take_take, Nat.min_eq_left hk']
    rw [e1] at hnz hv4
    obtain ⟨M', hM'⟩ : ∃ M', val (zs.take k') = M' := ⟨_, rfl⟩
    have HTx3 := hI (HTx.out.group HT.out HG.out hg3 hr3 ho3 H3.out.1 hk' hnz hM')
    have HMM := hI (show M = 1000000000 * M' + g /\ 0 < M from by
     have a := H3.out.2
     rw [zS3, zS3, HTx.out.vm, <- hv4, hM'] at a
     refine ⟨a, ?_⟩
     have := zB4 HTx.out.nz (by intro e; have := congrArg List.length e; rw [List.length_take, HTx.out.lz] at this; simp at this; omega)
     rwa [HTx.out.vm] at this)
    have HD3 := hI (show g < 10 ^ (9 - 0) /\ dec N0 = dec (M' * 10 ^ (9 - 0) + g) ++ D from ⟨hg9, by
     have := HD.out
     rw [HMM.out.1] at this
     rw [this, Nat.mul_comm 1000000000 M']⟩)
    have Hlt := hI (show M' < M from by have := HMM.out; omega)
    clear HMM e1 hnz hv4 hM' hsl hr3 ho3 hg3 hg9 HD HTx hz3 H3
    go_wp2
    go_loopg [5, 7, 8] 9 (fun m s5 s7 s8 wr => ∃ (c0 q g : Nat) (bs D : List UInt8), s5 = .int .i64 q /\ s7 = .int .u32 g /\ s8 = .int .i64 c0 /\ m = 9 - c0 /\ c0 <= 9 /\ g < 4294967296 /\ Hid (Tx w wr r T G n neg A c M' k' zs q bs D) /\ Hid (g < 10 ^ (9 - c0) /\ dec N0 = dec (M' * 10 ^ (9 - c0) + g) ++ D))
    case atStart => exact ⟨0, q, g, bs, D, rfl, rfl, by go_num, rfl, by omega, by have := HD3.out.1; omega, HTx3.out, HD3.out⟩
    case round =>
     clear HTx3 HD3
     obtain ⟨c0, q, g, bs, D, rfl, rfl, rfl, rfl, hc0, hg, HTx, HD⟩ := hrel
     by_cases hc9 : c0 < 9
     . have t1 : (c0 : Int) < 9 := by omega
       by_cases hp : 0 < k' \/ 0 < g
       . have hM0 : 0 < M' \/ 0 < g := by
          rcases hp with hp | hp
          . left
            have := zB4 HTx.out.nz (by intro e; have := congrArg List.length e; rw [List.length_take, HTx.out.lz] at this; simp at this; omega)
            rwa [HTx.out.vm] at this
          . exact .inr hp
         have HS := hI (text_step hc9 HD.out.2 hM0 HD.out.1)
         obtain ⟨p, rfl⟩ : ∃ p, q = p + 1 := ⟨q - 1, by have := HTx.out.hq; have := HS.out.2.2; have := HL.out; omega⟩
         have HP := hI (HTx.out.put (dgt g) HT.out (by have := HG.out; omega))
         have hpL : p < 10 * n + 1 := by have := HTx.out.hq; omega
         have cp := HTx.out.bb.cell (i := p) (by rw [HTx.out.lb]; exact hpL)
         have fp := HTx.out.bb.frozen p
         have i1 : ((p + 1 : Nat) : Int) - 1 = (p : Int) := by omega
         have i2 : (p : Int) < ((10 * n + 1 : Nat) : Int) := by omega
         have i3 : (48 : Int) + (g : Int) % 10 = ((dgt g).toNat : Int) := by rw [dgt_val]; omega
         have I3 := hI i3
         clear i3
         rcases Nat.eq_zero_or_pos k' with hk0' | hk0'
         . have t2 : (k' : Int) <= 0 := by omega
           have t3 : (0 : Int) < (g : Int) := by omega
           go_wp2
           rw [I3.out]
           go_roundg (9 - (c0 + 1))
           case measure => omega
           case rel => exact ⟨c0 + 1, p, g / 10, bs.set p (dgt g), dgt g :: D, rfl, by go_num, by go_num, rfl, by omega, by omega, HP.out, HS.out.2.1, HS.out.1⟩
         . have t2 : (0 : Int) < (k' : Int) := by omega
           go_wp2
           rw [I3.out]
           go_roundg (9 - (c0 + 1))
           case measure => omega
           case rel => exact ⟨c0 + 1, p, g / 10, bs.set p (dgt g), dgt g :: D, rfl, by go_num, by go_num, rfl, by omega, by omega, HP.out, HS.out.2.1, HS.out.1⟩
       . obtain rfl : k' = 0 := by omega
         have HE := hI (show dec N0 = dec M' ++ D from by
          have e := HTx.out.vm
          rw [List.take_zero, zD6] at e
          obtain rfl : g = 0 := by omega
          have := HD.out.2
          rw [<- e, Nat.zero_mul, Nat.zero_add] at this
          rw [<- e]
          exact this)
         have t3 : (g : Int) <= 0 := by omega
         have hk'n := HTx.out.kn
         go_wp2
         go_roundg M'
         case measure => exact Hlt.out
         case rel => exact ⟨M', 0, q, zs, bs, D, rfl, rfl, rfl, hk'n, HTx.out, HE.out⟩
     . have HE := hI (show dec N0 = dec M' ++ D from by
        obtain rfl : c0 = 9 := by omega
        have := HD.out
        rw [Nat.sub_self, Nat.pow_zero, Nat.mul_one] at this
        obtain rfl : g = 0 := by omega
        exact this.2)
       have t1 : (9 : Int) <= (c0 : Int) := by omega
       have hk'n := HTx.out.kn
       go_wp2
       go_roundg M'
       case measure => exact Hlt.out
       case rel => exact ⟨M', k', q, zs, bs, D, rfl, rfl, rfl, hk'n, HTx.out, HE.out⟩
theorem canon_nil : zK8 [] = false := rfl
theorem zQ7 {l : List UInt8} (h : l ≠ []) : zK8 (48 :: l) = false := by
 unfold zK8
 have : ((48 :: l) == [48]) = false := by
  rw [beq_eq_false_iff_ne]
  intro e
  injection e with _ e
  exact h e
 rw [this]; simp
theorem canon_bad {l : List UInt8} {c : UInt8} (h : c ∈ l) (hc : isD c = false) : zK8 l = false := by
 unfold zK8
 have : l.all isD = false := by
  rw [<- Bool.not_eq_true, List.all_eq_true]
  intro e
  rw [e c h] at hc
  cases hc
 rw [this, Bool.and_false]
theorem canon_good {c : UInt8} {l : List UInt8} (h0 : c ≠ 48 \/ l = []) (h : ∀ x ∈ c :: l, isD x = true) : zK8 (c :: l) = true := by
 unfold zK8
 have : (c :: l).all isD = true := List.all_eq_true.2 h
 rw [this]
 rcases h0 with h0 | rfl
 . have e : (c == 48) = false := by rw [beq_eq_false_iff_ne]; exact h0
   simp [e]
 . simp
theorem take_snoc' (s : ByteArray) (k : Nat) (h : k < s.size) : s.data.toList.take (k + 1) = s.data.toList.take k ++ [s[k]] := by
 rw [List.take_succ_eq_append_getElem (by simpa using h)]; rfl
theorem decimal_loop (s : ByteArray) (w : World) (hs : s.size <= 140737488351232) (c : UInt8) (t : List UInt8) (hl : s.data.toList = c :: t) (h0 : c ≠ 48 \/ t = []) :
 Calls Tryz.prog 74 #[.string s] w fun e w' => e = .returned (.bool (zK8 s.data.toList)) /\ w = w' := by
 have hsz : s.size = t.length + 1 := by
  have := congrArg List.length hl
  simpa using this
 have hpos : 0 < s.size := by omega
 have hc0 : s[0] = c := by
  have : s.data.toList[0]'(by simpa using hpos) = c := by simp [hl]
  exact this
 have HC := hI (show (∀ x ∈ s.data.toList, isD x = true) -> zK8 s.data.toList = true by rw [hl]; exact canon_good h0)
 have f1 : s.toList.isEmpty = false := by rw [Lib.toList_data, hl]; rfl
 have f1' : (!s.toList.isEmpty) = true := by rw [f1]; rfl
 have hf : (((s[0]).toNat : Int) == 48) = false \/ ((((s[0]).toNat : Int) == 48) = true /\ (s.toList == [48]) = true) := by
  rcases h0 with h0 | h0
  . left
    rw [hc0, beq_eq_false_iff_ne]
    intro e
    apply h0
    apply UInt8.toNat_inj.1
    have h48 : (48 : UInt8).toNat = 48 := rfl
    omega
  . by_cases e : c = 48
    . right
      refine ⟨?_, by rw [Lib.toList_data, hl, h0, e]; decide⟩
      rw [hc0, e]; rfl
    . left
      rw [hc0, beq_eq_false_iff_ne]
      intro e'
      apply e
      apply UInt8.toNat_inj.1
      have h48 : (48 : UInt8).toNat = 48 := rfl
      omega
 clear hc0 hl hsz h0
 have H1 := hI f1'
 rcases hf with hf | ⟨hf, hf'⟩
 all_goals
  go_enter Tryz.func74, Tryz.ntmps74
  go_wp2_with fail
  go_loop [17] (fun iv => ∃ k : Nat, k <= s.size /\ iv = .int .i64 k /\ Hid (∀ x ∈ s.data.toList.take k, isD x = true)) (fun iv => s.size - (intOf iv).toNat)
  case atStart => exact ⟨0, Nat.zero_le _, rfl, by rw [Hid, List.take_zero]; intro x hx; cases hx⟩
  case round =>
   obtain ⟨k, hk, rfl, Hk⟩ := hrel
   by_cases hkn : k < s.size
   . by_cases hd : isD s[k] = true
     . have hdd := (zQ1 _).1 hd
       have HN := hI (show ∀ x ∈ s.data.toList.take (k + 1), isD x = true by
        rw [take_snoc' s k hkn]
        intro x hx
        rcases List.mem_append.1 hx with hx | hx
        . exact Hk.out x hx
        . rw [List.mem_singleton.1 hx]; exact hd)
       have t1 : (48 : Int) <= ((s[k]).toNat : Int) := by omega
       have t2 : ((s[k]).toNat : Int) <= 57 := by omega
       clear hd hdd
       go_wp2
       go_round
       case rel => exact ⟨k + 1, by omega, by go_num, HN.out⟩
       case measure => simp [intOf]; omega
     . have hd : isD s[k] = false := by simpa using hd
       have HB := hI (canon_bad (l := s.data.toList) (c := s[k]) (List.getElem_mem (by simpa using hkn)) hd)
       have hdd : (s[k]).toNat < 48 \/ 57 < (s[k]).toNat := by
        rcases Nat.lt_or_ge (s[k]).toNat 48 with h | h
        . exact .inl h
        . rcases Nat.lt_or_ge 57 (s[k]).toNat with h2 | h2
          . exact .inr h2
          . rw [(zQ1 _).2 ⟨h, h2⟩] at hd; cases hd
       clear hd
       rcases hdd with hdd | hdd
       . have t1 : ((s[k]).toNat : Int) < 48 := by omega
         clear hdd
         go_wp2
         go_ret
         exact ⟨zL6 HB.out.symm, rfl⟩
       . have t1 : (48 : Int) <= ((s[k]).toNat : Int) := by omega
         have t2 : (57 : Int) < ((s[k]).toNat : Int) := by omega
         clear hdd
         go_wp2
         go_ret
         exact ⟨zL6 HB.out.symm, rfl⟩
   . obtain rfl : k = s.size := by omega
     have HT := hI (HC.out (by
      have := Hk.out
      rwa [List.take_of_length_le (by simp)] at this))
     go_wp2
     go_ret
     exact ⟨zL6 HT.out.symm, rfl⟩
theorem zL9 (s : ByteArray) (w : World) (hs : s.size <= 140737488351232) :
 Calls Tryz.prog 74 #[.string s] w fun e w' => e = .returned (.bool (zK8 s.data.toList)) /\ w = w' := by
 rcases hl : s.data.toList with _ | ⟨c, t⟩
 . have f1 : s.toList = [] := by rw [Lib.toList_data, hl]
   rw [canon_nil]
   clear hl
   go_enter Tryz.func74, Tryz.ntmps74
   go_wp2
   go_ret
   exact ⟨rfl, rfl⟩
 . by_cases h0 : c ≠ 48 \/ t = []
   . rw [<- hl]
     exact decimal_loop s w hs c t hl h0
   . have hc : c = 48 := by
      rcases Decidable.em (c = 48) with h | h
      . exact h
      . exact absurd (.inl h) h0
     have ht : t ≠ [] := fun h => h0 (.inr h)
     subst hc
     rw [zQ7 ht]
     have hpos : 0 < s.size := by
      have := congrArg List.length hl
      simp at this
      omega
     have hc0 : s[0] = 48 := by
      have : s.data.toList[0]'(by simpa using hpos) = 48 := by simp [hl]
      exact this
     have f1 : s.toList.isEmpty = false := by rw [Lib.toList_data, hl]; rfl
     have f1' : (!s.toList.isEmpty) = true := by rw [f1]; rfl
     have f2 : (((s[0]).toNat : Int) == 48) = true := by rw [hc0]; rfl
     have f3 : (s.toList == [48]) = false := by
      rw [Lib.toList_data, hl, beq_eq_false_iff_ne]
      intro e
      injection e with _ e
      exact ht e
     clear hl hc0 h0
     go_enter Tryz.func74, Tryz.ntmps74
     go_wp2
     go_ret
     exact ⟨rfl, rfl⟩
theorem zM3 (s : ByteArray) (w : World) (hs : s.size <= 9) (hd : ∀ x ∈ s.data.toList, isD x = true) :
 Calls Tryz.prog 76 #[.string s] w fun e w' => e = .returned (.int .u32 (dnum s.data.toList : Nat)) /\ w = w' := by
 have HD := hI hd
 clear hd
 go_enter Tryz.func76, Tryz.ntmps76
 go_wp2
 go_loop [3, 7] (fun nv iv => ∃ k n : Nat, k <= s.size /\ iv = .int .i64 k /\ nv = .int .u32 n /\ Hid (dnum (s.data.toList.take k) = n)) (fun _ iv => s.size - (intOf iv).toNat)
 case atStart => exact ⟨0, 0, Nat.zero_le _, rfl, rfl, rfl⟩
 case round =>
  obtain ⟨k, n, hk, rfl, rfl, Hn⟩ := hrel
  by_cases hkn : k < s.size
  . have hdd := (zQ1 _).1 (HD.out s[k] (List.getElem_mem (by simpa using hkn)))
    have HN := hI (show dnum (s.data.toList.take (k + 1)) = 10 * n + ((s[k]).toNat - 48) by
     rw [take_snoc' s k hkn, dnum_snoc, Hn.out])
    have hlt : n < 100000000 := by
     have a := dnum_lt (l := s.data.toList.take k) (fun x hx => HD.out x (List.mem_of_mem_take hx))
     rw [Hn.out] at a
     have b : (10 : Nat) ^ (s.data.toList.take k).length <= 10 ^ 8 := Nat.pow_le_pow_right (by decide) (by rw [List.length_take]; omega)
     exact Nat.lt_of_lt_of_le a b
    have t1 : (48 : Int) <= ((s[k]).toNat : Int) := by omega
    have t2 : ((s[k]).toNat : Int) <= 57 := by omega
    clear hdd
    go_wp2
    go_round
    case rel => exact ⟨k + 1, 10 * n + ((s[k]).toNat - 48), by omega, by go_num, by go_num, HN.out⟩
    case measure => simp [intOf]; omega
  . obtain rfl : k = s.size := by omega
    have HT := hI (show dnum s.data.toList = n by
     have := Hn.out
     rwa [List.take_of_length_le (by simp)] at this)
    go_wp2
    go_ret
    exact ⟨ret_int (by rw [HT.out]), rfl⟩
theorem us_set (xs : List Nat) (k v : Nat) : us (xs.set k v) = (us xs).set k (.int .u32 (v : Int)) := by rw [us, List.map_set]; rfl
theorem scale_step {P S T c x f v c' : Nat} (hv : v + 4294967296 * c' = c + x * f) (h : S + P * c = T) : S + P * v + P * 4294967296 * c' = T + P * (x * f) := by
 have e : P * v + P * (4294967296 * c') = P * c + P * (x * f) := by rw [<- Nat.mul_add, hv, Nat.mul_add]
 rw [Nat.mul_assoc]; omega
theorem scale_rel {w wr : World} {B g n c k cy f c0 : Nat} {xs xr : List Nat} (hk : k < n) (hl : xr.length = n) (Hown : Hid (wr.ownsRow B 64 1 (.slice (some ⟨g, 0, none⟩) n c) n (us xr))) (Hok : Hid (Ok xr)) (Hsame : Hid (Same xs xr 0 k))
 (Hval : Hid (wv xr 0 k + 4294967296 ^ k * cy = val (xs.take k) * f + c0)) (Hgr : Hid (w.grownBy wr (some g))) (s : Nat) (hs : s = cy + lim xs k * f) :
 Hid ((wr.setCell ⟨g, k, none⟩ (.int .u32 ((s % 4294967296 : Nat) : Int))).ownsRow B 64 1 (.slice (some ⟨g, 0, none⟩) n c) n (us (xr.set k (s % 4294967296)))) /\ Hid (Ok (xr.set k (s % 4294967296))) /\ Hid (Same xs (xr.set k (s % 4294967296)) 0 (k + 1)) ∧
 Hid (wv (xr.set k (s % 4294967296)) 0 (k + 1) + 4294967296 ^ (k + 1) * (s / 4294967296) = val (xs.take (k + 1)) * f + c0) /\ Hid (w.grownBy (wr.setCell ⟨g, k, none⟩ (.int .u32 ((s % 4294967296 : Nat) : Int))) (some g)) := by
 refine ⟨?_, Hok.out.set _ (Nat.mod_lt _ (by decide)), ⟨by rw [List.length_set]; exact Hsame.out.1, fun i hi => ?_⟩, ?_, zJ1 Hgr.out _ _⟩
 . rw [us_set]; exact (Hown.out.stored k _).1
 . rw [zC2 (by omega)]; exact Hsame.out.2 i (by omega)
 . have e := zD2 (zs := xr) (off := 0) (k := k) (v := s % 4294967296) (by omega)
   rw [Nat.zero_add] at e
   rw [Hid, e, zB, Nat.pow_succ, Nat.add_mul, Nat.mul_assoc (4294967296 ^ k) (lim xs k) f]
   have := scale_step (v := s % 4294967296) (c' := s / 4294967296) (x := lim xs k) (f := f) (by omega) Hval.out
   omega
theorem own_lims {w : World} {B g n c : Nat} {xs : List Nat} (h : w.ownsRow B 64 1 (.slice (some ⟨g, 0, none⟩) n c) n (us xs)) : xs.length = n := by
 have := h.1
 rw [zF8] at this
 omega
theorem scale_own (B g n c f c0 : Nat) (xs : List Nat) (w : World) (h : w.ownsRow B 64 1 (.slice (some ⟨g, 0, none⟩) n c) n (us xs)) (ox : Ok xs) (hf : f < 4294967296) (hc0 : c0 < 4294967296) (hn : n <= 1000000) :
 Calls Tryz.prog 75 #[.slice (some ⟨g, 0, none⟩) n c, .int .u32 (f : Int), .int .u32 (c0 : Int)] w fun e w' => ∃ (xs' : List Nat) (cy : Nat), e = .returned (.int .u32 (cy : Int)) /\ w'.ownsRow B 64 1 (.slice (some ⟨g, 0, none⟩) n c) n (us xs') /\ Ok xs' ∧
  val xs' + 4294967296 ^ n * cy = val xs * f + c0 /\ cy < 4294967296 /\ w.grownBy w' (some g) := by
 have hlx := own_lims h
 have HL := hI hlx
 clear hlx
 go_enter Tryz.func75, Tryz.ntmps75
 go_wp2
 go_loopw [7, 13] (fun sv iv wr => ∃ (k cy : Nat) (xr : List Nat), k <= n /\ iv = .int .i64 k /\ sv = .int .u64 cy /\ cy < 4294967296 /\ Hid (wr.ownsRow B 64 1 (.slice (some ⟨g, 0, none⟩) n c) n (us xr)) /\ Hid (Ok xr) /\ Hid (Same xs xr 0 k) ∧
  Hid (wv xr 0 k + 4294967296 ^ k * cy = val (xs.take k) * f + c0) /\ Hid (w.grownBy wr (some g))) (fun _ iv _ => n - (intOf iv).toNat)
 case atStart => exact ⟨0, c0, xs, by omega, rfl, rfl, hc0, h, ox, Same.refl _ _ _, by simp [Hid, wv, val], World.grownBy.refl w _⟩
 case round =>
  obtain ⟨k, cy, xr, hk, rfl, rfl, hcy, Hown, Hok, Hsame, Hval, Hgr⟩ := hrel
  by_cases hkn : k < n
  . have hl := own_lims Hown.out
    have hc1 : wr.cell? ⟨g, k, none⟩ = some (.int .u32 (lim xs k : Nat)) := by
     rw [Hown.out.cellAt k (by omega), us_get xr k (by omega), Hsame.out.2 k (.inr (Nat.le_refl _))]
    have hf1 := Hown.out.frozenAt k
    have hy := ox.lim k
    have R := hI (scale_rel hkn hl Hown Hok Hsame Hval Hgr _ rfl)
    have hp : lim xs k * f <= 4294967295 * 4294967295 := Nat.mul_le_mul (by omega) (by omega)
    have b1 : ((lim xs k : Nat) : Int) * (f : Int) <= 18446744065119617025 := by rw [<- Int.natCast_mul]; omega
    have b0 : 0 <= ((lim xs k : Nat) : Int) * (f : Int) := by rw [<- Int.natCast_mul]; omega
    have c1 : ((cy : Int) + ((lim xs k : Nat) : Int) * (f : Int)) = ((cy + lim xs k * f : Nat) : Int) := by rw [Int.natCast_add, Int.natCast_mul]
    have C1 := hI (And.intro c1 (show (cy + lim xs k * f) / 4294967296 < 4294967296 by omega))
    clear c1 hp hl
    go_wp2
    rw [C1.out.1, show (((cy + lim xs k * f : Nat) : Int) % 4294967296) = (((cy + lim xs k * f) % 4294967296 : Nat) : Int) by omega, show (((cy + lim xs k * f : Nat) : Int) / 4294967296) = (((cy + lim xs k * f) / 4294967296 : Nat) : Int) by omega]
    exact ⟨⟨k + 1, (cy + lim xs k * f) / 4294967296, _, by omega, by go_num, rfl, C1.out.2, R.out⟩, by simp [intOf]; omega⟩
  . obtain rfl : k = n := by omega
    have HV := hI (show val xr + 4294967296 ^ k * cy = val xs * f + c0 by
     have a := Hval.out
     rw [zF7 xr (by rw [own_lims Hown.out]; exact Nat.le_refl _), List.take_of_length_le (by rw [HL.out]; exact Nat.le_refl _)] at a
     exact a)
    go_wp2
    go_ret
    exact ⟨xr, cy, by simp, Hown.out, Hok.out, HV.out, hcy, Hgr.out⟩
theorem scale_nil (f c0 : Nat) (w : World) (hc0 : c0 < 4294967296) :
 Calls Tryz.prog 75 #[.slice none 0 0, .int .u32 (f : Int), .int .u32 (c0 : Int)] w fun e w' => e = .returned (.int .u32 (c0 : Int)) /\ w = w' := by
 go_enter Tryz.func75, Tryz.ntmps75
 go_wp2
 go_loop [7, 13] (fun sv iv => sv = .int .u64 c0 /\ iv = .int .i64 0) (fun _ _ => 0)
 case atStart => exact ⟨rfl, rfl⟩
 case round =>
  obtain ⟨rfl, rfl⟩ := hrel
  go_wp2
  go_ret
  exact ⟨rfl, rfl⟩
def prs (l : List UInt8) : Option Int :=
 if zK8 (Lib.trimPrefix l [45]) && !(Lib.hasPrefix l [45] && Lib.trimPrefix l [45] == [48]) then some (sg (Lib.hasPrefix l [45]) (dnum (Lib.trimPrefix l [45]))) else none
def prZ (l : List UInt8) : Int := match prs l with | none => 0 | some z => fitZ z
def prE (l : List UInt8) : Int := match prs l with | none => 3 | some z => fitE z
structure Pa (w wr : World) (r N : Nat) (full : List UInt8) (v : Value) (n : Nat) (xs : List Nat) (l : List UInt8) : Prop where
 bx : Bx wr r false none 0 0
 own : wr.ownsRow (r + 1) 64 1 v n (us xs)
 ok : Ok xs
 nz : Nz xs
 sum : val xs * 10 ^ l.length + dnum l = N
 dig : ∀ x ∈ l, isD x = true
 st : (l = full /\ v = .slice none 0 0 /\ n = 0 /\ xs = []) \/ (0 < val xs /\ l.length % 9 = 0)
 be : Below r w wr
theorem app_one {w : World} {ops : Array Oper} {rest : List Oper} {o : Oper} {a : Act} {Q : Exit -> Act -> World -> Prop} (hgd : o.guard = none) (s x : Operand)
 (ho : o.op = .call { callee := .builtin .append, args := #[s, x], argTypes := #[22, 22] }) (B n g0 cy : Nat) (v : Value) (xs : List Nat)
 (hs : a.eval s = v) (hown : w.ownsRow B 64 1 v n (us xs)) (hx : a.eval x = .slice (some ⟨g0, 0, none⟩) 1 1) (hr : Row w g0 [cy]) (hcy : cy < 4294967296) (hn : n <= 1000000) (hB : B <= w.heap.size)
 (h : ∀ v' w', w'.ownsRow B 64 1 v' (n + 1) (us (xs ++ [cy])) -> w.grownBy w' v.ownBlock -> wpList Tryz.prog ops Q rest (a.put o.dst v') w') :
 wpList Tryz.prog ops Q (o :: rest) a w := by
 obtain ⟨i0, hi0, hz0, hz1, hz2⟩ := info_parts zR5
 have hsl := hr.sl (B := g0 + 1) (n := 1) (c := 1) (by omega) 0 (by simp) (by omega) (by omega) (Ok.cons hcy Ok.nil)
 refine zK3 w hgd s x 22 ho B 64 i0 _ 1 4 Tryz.underlying22 hi0 hz0 hz1 hz2 rfl (by omega) v n (us xs) hs hown (g0 + 1) (some ⟨g0, 0, none⟩) 1 1 (us [cy]) hx hsl.reads ?_ (by unfold maxLen; omega) (by omega) hB ?_
 . intro u hu
   simp only [us, List.mem_map] at hu
   obtain ⟨y, _, rfl⟩ := hu
   rfl
 . intro v' w' hown' hg _
   rw [show us xs ++ us [cy] = us (xs ++ [cy]) by simp [us]] at hown'
   exact h v' w' hown' hg
theorem nz_of_ge {xs : List Nat} {n : Nat} (hx : Ok xs) (hl : xs.length = n + 1) (h : 4294967296 ^ n <= val xs) : Nz xs := by
 have hne : xs ≠ [] := by rintro rfl; simp at hl
 rw [zR hne, hl, Nat.add_sub_cancel]
 intro e
 have a := zB xs n
 rw [List.take_of_length_le (by omega), e, Nat.mul_zero, Nat.add_zero] at a
 have b := zD (hx.take n)
 rw [List.length_take, Nat.min_eq_left (by omega)] at b
 omega
theorem nz_snoc {xs : List Nat} {c : Nat} (h : c ≠ 0) : Nz (xs ++ [c]) := by
 unfold Nz
 rw [List.getLast?_concat]
 simpa using h
theorem zP4 {l : List UInt8} (h : zK8 l = true) : ∀ x ∈ l, isD x = true := by
 unfold zK8 at h
 rw [Bool.and_eq_true] at h
 exact List.all_eq_true.1 h.2
theorem zI1 {w : World} {B n : Nat} {v : Value} {xs : List Nat} (h : w.ownsRow B 64 1 v n (us xs)) : xs.length = n := by
 have := h.1
 rw [zF8] at this
 omega
theorem head_pos {l : List UInt8} {m : Nat} (h : zK8 l = true) (h1 : l ≠ [48]) (hm : 1 <= m) : 0 < dnum (l.take m) := by
 rcases l with _ | ⟨c, t⟩
 . cases h
 . have hc : c ≠ 48 := by
    rintro rfl
    by_cases ht : t = []
    . exact h1 (by rw [ht])
    . rw [zQ7 ht] at h; cases h
   obtain ⟨j, rfl⟩ : ∃ j, m = j + 1 := ⟨m - 1, by omega⟩
   rw [List.take_succ_cons]
   exact Nat.lt_of_lt_of_le (Nat.pow_pos (by decide)) (dnum_pos (zP4 h c (by simp)) hc)
theorem group_sum {M N : Nat} {l : List UInt8} {m : Nat} (h : M * 10 ^ l.length + dnum l = N) (hm : m <= l.length) : (M * 10 ^ m + dnum (l.take m)) * 10 ^ (l.drop m).length + dnum (l.drop m) = N := by
 have e := dnum_app (l.take m) (l.drop m)
 rw [List.take_append_drop] at e
 rw [<- h, e, Nat.add_mul, Nat.mul_assoc, <- Nat.pow_add, List.length_drop, show m + (l.length - m) = l.length by omega]
 omega
theorem parse_form (s d : ByteArray) (neg : Bool) (w : World) (hs : d.size <= 140737488351232) (C : ∀ w : World, Calls Tryz.prog 73 #[.string s, .string ⟨#[45]⟩] w fun e w' => e = .returned (.tuple #[.string d, .bool neg]) /\ w' = w)
 (hf : zK8 d.data.toList = false \/ (zK8 d.data.toList = true /\ neg = true /\ d.data.toList = [48])) : Calls Tryz.prog 39 #[.string s] w (zB0 0 3 w) := by
 have Hb := hI ((Below.refl w.heap.size w).alloc (Nat.le_refl _) (.cells #[.bool false, .slice none 0 0] 24))
 have HC := hI C
 clear C
 rcases hf with hf | ⟨hf, rfl, hl⟩
 . have HF := hI hf
   clear hf
   go_enter Tryz.func39, Tryz.ntmps39
   go_wp2_with fail
   refine (HC.out _).mono ?_
   rintro e w1 ⟨rfl, rfl⟩
   go_wp2_with fail
   refine (zL9 _ _ hs).mono ?_
   rintro e w1 ⟨rfl, rfl⟩
   rw [HF.out]
   go_wp2
   exact bodyPost_ret (v := .tuple #[.agg #[.bool false, .slice none 0 0], .int .i64 3]) (by simp [results, Tryz.results39, go_sem]) rfl
    ⟨none, 0, 0, [], rfl, Sl.nil _ _, Nz.nil, rfl, Hb.out⟩
 . have f1 : (d.toList == [48]) = true := by rw [Lib.toList_data, hl]; decide
   have HF := hI hf
   clear hf hl
   go_enter Tryz.func39, Tryz.ntmps39
   go_wp2_with fail
   refine (HC.out _).mono ?_
   rintro e w1 ⟨rfl, rfl⟩
   go_wp2_with fail
   refine (zL9 _ _ hs).mono ?_
   rintro e w1 ⟨rfl, rfl⟩
   rw [HF.out]
   go_wp2
   exact bodyPost_ret (v := .tuple #[.agg #[.bool false, .slice none 0 0], .int .i64 3]) (by simp [results, Tryz.results39, go_sem]) rfl
    ⟨none, 0, 0, [], rfl, Sl.nil _ _, Nz.nil, rfl, Hb.out⟩
theorem parse_zero (s d : ByteArray) (w : World) (hs : d.size <= 140737488351232) (C : ∀ w : World, Calls Tryz.prog 73 #[.string s, .string ⟨#[45]⟩] w fun e w' => e = .returned (.tuple #[.string d, .bool false]) /\ w' = w)
 (hl : d.data.toList = [48]) : Calls Tryz.prog 39 #[.string s] w (zB0 0 0 w) := by
 have Hb := hI ((Below.refl w.heap.size w).alloc (Nat.le_refl _) (.cells #[.bool false, .slice none 0 0] 24))
 have HC := hI C
 have f1 : (d.toList == [48]) = true := by rw [Lib.toList_data, hl]; decide
 have HF := hI (show zK8 d.data.toList = true by rw [hl]; decide)
 clear C hl
 go_enter Tryz.func39, Tryz.ntmps39
 go_wp2_with fail
 refine (HC.out _).mono ?_
 rintro e w1 ⟨rfl, rfl⟩
 go_wp2_with fail
 refine (zL9 _ _ hs).mono ?_
 rintro e w1 ⟨rfl, rfl⟩
 rw [HF.out]
 go_wp2
 exact bodyPost_ret (v := .tuple #[.agg #[.bool false, .slice none 0 0], .int .i64 0]) (by simp [results, Tryz.results39, go_sem]) rfl
  ⟨none, 0, 0, [], rfl, Sl.nil _ _, Nz.nil, rfl, Hb.out⟩
theorem parse_num (s d : ByteArray) (neg : Bool) (w : World) (hs : d.size <= 140737488351232) (C : ∀ w : World, Calls Tryz.prog 73 #[.string s, .string ⟨#[45]⟩] w fun e w' => e = .returned (.tuple #[.string d, .bool neg]) /\ w' = w)
 (hc : zK8 d.data.toList = true) (hne : d.data.toList ≠ [48]) (N : Nat) (hN : dnum d.data.toList = N) : Calls Tryz.prog 39 #[.string s] w (zB0 (fitZ (sg neg N)) (fitE (sg neg N)) w) := by
 have HC := hI C
 have f1 : (d.toList == [48]) = false := by rw [Lib.toList_data, beq_eq_false_iff_ne]; exact hne
 have HF := hI (And.intro hc (And.intro hne hN))
 clear C hc hne hN
 go_enter Tryz.func39, Tryz.ntmps39
 go_wp2_with fail
 refine (HC.out _).mono ?_
 rintro e w1 ⟨rfl, rfl⟩
 go_wp2_with fail
 refine (zL9 _ _ hs).mono ?_
 rintro e w1 ⟨rfl, rfl⟩
 rw [HF.out.1]
 generalize hW : World.alloc w _ = W
 have HB := hI (show Below w.heap.size w W /\ Bx W w.heap.size false none 0 0 from by rw [<- hW]; exact ⟨(Below.refl _ _).alloc (Nat.le_refl _) _, Bx.new _ _ _ _ _⟩)
 clear hW
 generalize hr : w.heap.size = r at *
 have HR := hI hr
 clear hr
 cases neg
 . skip
   go_wp2
   go_loopg [4, 6] d.size (fun gg s4 s6 wr => ∃ (dr : ByteArray) (A : Option Addr) (n c : Nat) (xs : List Nat), s4 = .string dr /\ s6 = .slice A n c /\ dr.size = gg /\ dr.size <= 140737488351232 /\ n <= 129 /\ Hid (Pa w wr r N d.data.toList (.slice A n c) n xs dr.data.toList))
   case atStart => exact ⟨d, none, 0, 0, [], rfl, rfl, rfl, hs, by omega, ⟨HB.out.2, World.ownsRow_nil _ _ _ _, Ok.nil, Nz.nil, by rw [zD6, Nat.zero_mul, Nat.zero_add]; exact HF.out.2.2, zP4 HF.out.1, .inl ⟨rfl, rfl, rfl, rfl⟩, HB.out.1⟩⟩
   case round =>
    obtain ⟨dr, A, n, c, xs, rfl, rfl, rfl, hds, hn9, HPa⟩ := hrel
    obtain ⟨A9, c9, e9, hsl⟩ := zH9 HPa.out.own (by omega) HPa.out.ok
    injection e9 with e9 _ e9c
    subst e9
    subst e9c
    have hl2 : dr.data.toList.length = dr.size := by simp
    have b0 := HPa.out.bx
    have k3 := b0.c0
    have k4 := b0.c1
    have k5 := b0.f 0
    have k6 := b0.f 1
    have lr := b0.lt
    by_cases hd0 : dr.size = 0
    . have HX := hI (show val xs = N by
       have a := HPa.out.sum
       have e : dr.data.toList = [] := List.eq_nil_of_length_eq_zero (by rw [hl2]; exact hd0)
       rw [e, List.length_nil, Nat.pow_zero, Nat.mul_one, dnum_nil] at a
       exact a)
      clear k3 k4 k5 k6 lr hl2
      go_wp2_with fail
      refine (zF0 false _ _ _ xs _ hsl HPa.out.nz).mono ?_
      rintro e w5 ⟨A5, n5, c5, xs5, rfl, hs5, hx5, hv5, hb5⟩
      have b0 := b0.below hb5 b0.lt
      have k3 := b0.c0
      have k4 := b0.c1
      have k5 := b0.f 0
      have k6 := b0.f 1
      have H5 := hI (And.intro hx5 hv5)
      have HB5 := hI (zA HPa.out.be (Nat.le_of_lt HPa.out.bx.lt) hb5)
      clear hx5 hv5 hb5
      go_wp2
      refine bodyPost_ret (v := .tuple #[.agg #[.bool (decide (fitZ (sg false (val xs)) < 0)), .slice A5 n5 c5], .int .i64 (fitE (sg false (val xs)))]) (by simp [results, Tryz.results39, go_sem, k3, k4]) rfl
       ⟨A5, n5, c5, xs5, by rw [HX.out], hs5.ret b0 _ _, H5.out.1, by rw [H5.out.2, HX.out], by rw [HR.out]; exact zA1 HB5.out (Nat.le_refl _) _ _⟩
    . have hd1 : (0 : Int) < (dr.size : Int) := by omega
      by_cases hn : n <= 128
      . have i1 : (n : Int) <= 128 := by omega
        obtain ⟨m, hm⟩ : ∃ m, (dr.size - 1) % 9 + 1 = m := ⟨_, rfl⟩
        have hm9 : m <= 9 /\ 1 <= m /\ m <= dr.size := by omega
        have i2 : ((dr.size : Int) - 1) % 9 + 1 = (m : Int) := by omega
        have HM := hI (And.intro hm hl2)
        have HG := hI (group_sum HPa.out.sum (m := m) (by omega))
        have HD := hI (And.intro (fun x hx => HPa.out.dig x (List.mem_of_mem_take (i := m) hx)) (fun x hx => HPa.out.dig x (List.mem_of_mem_drop (i := m) hx)))
        have et : (dr.extract 0 m).data.toList = dr.data.toList.take m := Lib.Pa.extract_upto_list dr m
        have ed : (dr.extract m dr.size).data.toList = dr.data.toList.drop m := Lib.extract_to_end dr m
        have es : (dr.extract 0 m).size = m := by simp; omega
        have es2 : (dr.extract m dr.size).size = dr.size - m := by simp
        have HE := hI (And.intro et (And.intro ed (And.intro es es2)))
        have K := zM3 (dr.extract 0 m) wr (by omega) (by rw [et]; exact HD.out.1)
        rw [et] at K
        have HS9 := hI (show dnum (dr.data.toList.take m) < 1000000000 by
         have a := dnum_lt HD.out.1
         have b : (10 : Nat) ^ (dr.data.toList.take m).length <= 10 ^ 9 := Nat.pow_le_pow_right (by decide) (by rw [List.length_take]; omega)
         exact Nat.lt_of_lt_of_le a b)
        have HK := hI K
        clear et ed es es2 K hl2
        have hmi : (m : Int) <= (dr.size : Int) := by omega
        go_wp2_with fail
        refine HK.out.mono ?_
        rintro e w2 ⟨rfl, rfl⟩
        generalize hsm : dnum (dr.data.toList.take m) = sm at *
        rcases HPa.out.st with ⟨hl, hv, rfl, rfl⟩ | ⟨hM, h9⟩
        . injection hv with hv1 _ hv3
          subst hv1
          subst hv3
          have hsm0 : 0 < sm := by rw [<- hsm, hl]; exact head_pos HF.out.1 HF.out.2.1 hm9.2.1
          have t1 : (0 : Int) < (sm : Int) := by omega
          have hsm9 : sm < 4294967296 := by have := HS9.out; omega
          have hrow : Row (wr.alloc (.cells #[.int .u32 (sm : Int)] 64)) wr.heap.size [sm] := Blk.new wr _ _
          have Hown := hI (HPa.out.own.alloc (.cells #[.int .u32 (sm : Int)] 64))
          have Hrow := hI hrow
          clear hrow hl hsm
          go_wp2_with fail
          refine (scale_nil 1000000000 sm _ hsm9).mono ?_
          rintro e w2 ⟨rfl, rfl⟩
          go_wp2_with (with_reducible refine app_one rfl (.tmp 48) (.tmp 50) rfl (r + 1) 0 wr.heap.size sm (.slice none 0 0) [] rfl Hown.out rfl Hrow.out hsm9 (by omega) (by simp; omega) ?_; intro v' w' ho hg)
          have HN9 := hI (show Pa w w' r N d.data.toList v' (0 + 1) ([] ++ [sm]) (dr.extract m dr.size).data.toList from by
           refine ⟨Blk.grown (HPa.out.bx.alloc _) hg (by simp [Value.ownBlock]), ho, Ok.cons hsm9 Ok.nil, nz_snoc (by omega), ?_, by rw [HE.out.2.1]; exact HD.out.2, .inr ⟨by simp [val]; exact hsm0, ?_⟩, (HPa.out.be.alloc (Nat.le_of_lt HPa.out.bx.lt) _).grown hg (by have := HPa.out.bx.lt; simp; omega) (fun k hk => by cases hk)⟩
           . rw [HE.out.2.1]
             have a := HG.out
             rw [zD6, Nat.zero_mul, Nat.zero_add] at a
             rw [List.nil_append, zJ6, zD6, Nat.mul_zero, Nat.add_zero]
             exact a
           . rw [HE.out.2.1, List.length_drop, HM.out.2]
             have := HM.out.1
             omega)
          have H2 := hI HE.out.2.2.2
          obtain ⟨A7, c7, rfl, -⟩ := zH9 HN9.out.own (by omega) HN9.out.ok
          clear ho hg k3 k4 k5 k6 lr
          go_wp2
          go_roundg (dr.size - m)
          case measure => omega
          case rel => exact ⟨dr.extract m dr.size, A7, 0 + 1, c7, [] ++ [sm], rfl, rfl, H2.out, by have := H2.out; omega, by omega, HN9.out⟩
        . have hn0 : 0 < n := by
           rcases Nat.eq_zero_or_pos n with e | e
           . have := zI1 HPa.out.own
             rw [e] at this
             rw [List.eq_nil_of_length_eq_zero this] at hM
             simp [val] at hM
           . exact e
          obtain ⟨g, rfl, hgr⟩ : ∃ g, A = some ⟨g, 0, none⟩ /\ r + 1 <= g := by
           rcases HPa.out.own.2 with ⟨_, e⟩ | ⟨g, cap, cur, e, hb, _⟩
           . omega
           . injection e with e _ _
             exact ⟨g, e, hb⟩
          have hm99 : m = 9 := by
           rw [HM.out.2] at h9
           have := HM.out.1
           omega
          have HSM := hI (And.intro hsm (And.intro hM (And.intro h9 hm99)))
          have hsm9 : sm < 4294967296 := by have := HS9.out; omega
          clear hsm hM h9 hm99
          go_wp2_with fail
          refine (scale_own (r + 1) g n c 1000000000 sm xs _ HPa.out.own HPa.out.ok (by omega) hsm9 (by omega)).mono ?_
          rintro e w2 ⟨xs2, cy, rfl, ho2, hk2, hv2, hcy, hg2⟩
          have HV2 := hI (show val xs2 + 4294967296 ^ n * cy = val xs * 10 ^ m + sm from by rw [hv2, HSM.out.2.2.2])
          have HB2 := hI (And.intro (Blk.grown HPa.out.bx hg2 (by simp; omega)) (HPa.out.be.grown hg2 (Nat.le_of_lt HPa.out.bx.lt) (fun k hk => by injection hk with hk; omega)))
          have HO2 := hI (And.intro ho2 hk2)
          have HST := hI (show (dr.extract m dr.size).data.toList.length % 9 = 0 from by
           rw [HE.out.2.1, List.length_drop, HM.out.2]
           have := HM.out.1
           have := HSM.out.2.2.1
           rw [HM.out.2] at this
           omega)
          have H2 := hI HE.out.2.2.2
          clear hv2 ho2 hk2 hg2 k3 k4 k5 k6 lr
          by_cases hcy0 : cy = 0
          . subst hcy0
            have HN9 := hI (show Pa w w2 r N d.data.toList (.slice (some ⟨g, 0, none⟩) n c) n xs2 (dr.extract m dr.size).data.toList from by
             have a := HV2.out
             rw [Nat.mul_zero, Nat.add_zero] at a
             have hge : val xs * 1 <= val xs * 10 ^ m := Nat.mul_le_mul_left _ (Nat.pow_pos (by decide))
             have hxp := HSM.out.2.1
             refine ⟨HB2.out.1, HO2.out.1, HO2.out.2, nz_of_ge (n := n - 1) HO2.out.2 (by rw [zI1 HO2.out.1]; omega) ?_, ?_, by rw [HE.out.2.1]; exact HD.out.2, .inr ⟨by omega, HST.out⟩, HB2.out.2⟩
             . have := zQ8 HPa.out.nz (by rintro rfl; simp [val] at hxp)
               rw [zI1 HPa.out.own] at this
               omega
             . rw [HE.out.2.1, a]
               exact HG.out)
            go_wp2
            go_roundg (dr.size - m)
            case measure => omega
            case rel => exact ⟨dr.extract m dr.size, some ⟨g, 0, none⟩, n, c, xs2, rfl, rfl, H2.out, by have := H2.out; omega, by omega, HN9.out⟩
          . have t1 : (0 : Int) < (cy : Int) := by omega
            have hrow : Row (w2.alloc (.cells #[.int .u32 (cy : Int)] 64)) w2.heap.size [cy] := Blk.new w2 _ _
            have Hown := hI (HO2.out.1.alloc (.cells #[.int .u32 (cy : Int)] 64))
            have Hrow := hI hrow
            clear hrow
            have hw2 : r + 1 <= w2.heap.size := by have := HB2.out.1.lt; omega
            go_wp2_with (with_reducible refine app_one rfl (.tmp 48) (.tmp 50) rfl (r + 1) n w2.heap.size cy (.slice (some ⟨g, 0, none⟩) n c) xs2 rfl Hown.out rfl Hrow.out hcy (by omega) (by simp; omega) ?_; intro v' w' ho hg)
            have HN9 := hI (show Pa w w' r N d.data.toList v' (n + 1) (xs2 ++ [cy]) (dr.extract m dr.size).data.toList from by
             have a := HV2.out
             have hxp := HSM.out.2.1
             have hge : val xs * 1 <= val xs * 10 ^ m := Nat.mul_le_mul_left _ (Nat.pow_pos (by decide))
             have ev : val (xs2 ++ [cy]) = val xs * 10 ^ m + sm := by rw [val_snoc, zI1 HO2.out.1]; exact a
             refine ⟨Blk.grown (HB2.out.1.alloc _) hg (by simp [Value.ownBlock]; omega), ho, HO2.out.2.app (Ok.cons hcy Ok.nil), nz_snoc hcy0, ?_, by rw [HE.out.2.1]; exact HD.out.2, .inr ⟨by rw [ev]; omega, HST.out⟩, (HB2.out.2.alloc (Nat.le_of_lt HB2.out.1.lt) _).grown hg (by simp; omega) (fun k hk => by simp [Value.ownBlock] at hk; omega)⟩
             rw [HE.out.2.1, ev]
             exact HG.out)
            obtain ⟨A7, c7, rfl, -⟩ := zH9 HN9.out.own (by omega) HN9.out.ok
            clear ho hg
            go_wp2
            go_roundg (dr.size - m)
            case measure => omega
            case rel => exact ⟨dr.extract m dr.size, A7, n + 1, c7, xs2 ++ [cy], rfl, rfl, H2.out, by have := H2.out; omega, by omega, HN9.out⟩
      . have i1 : (128 : Int) < (n : Int) := by omega
        have HBG := hI (show BIG <= N by
         have a := zQ8 HPa.out.nz (by rintro rfl; have := zI1 HPa.out.own; simp at this; omega)
         rw [zI1 HPa.out.own] at a
         have b : (4294967296 : Nat) ^ 128 <= 4294967296 ^ (n - 1) := Nat.pow_le_pow_right (by decide) (by omega)
         have c := HPa.out.sum
         have d : val xs * 1 <= val xs * 10 ^ dr.data.toList.length := Nat.mul_le_mul_left _ (Nat.pow_pos (by decide))
         have e : BIG = 4294967296 ^ 128 := rfl
         rw [e]
         generalize (4294967296 : Nat) ^ 128 = P at *
         omega)
        have hf := fit_no (z := sg false N) (by rw [zD3]; exact Nat.not_lt.2 HBG.out)
        rw [hf.1, hf.2]
        clear hf
        go_wp2
        exact bodyPost_ret (v := .tuple #[.agg #[.bool false, .slice none 0 0], .int .i64 2]) (by simp [results, Tryz.results39, go_sem, k3, k4]) rfl
         ⟨none, 0, 0, [], rfl, Sl.nil _ _, Nz.nil, rfl, by rw [HR.out]; exact zA1 HPa.out.be (Nat.le_refl _) _ _⟩
 . skip
   go_wp2
   go_loopg [4, 6] d.size (fun gg s4 s6 wr => ∃ (dr : ByteArray) (A : Option Addr) (n c : Nat) (xs : List Nat), s4 = .string dr /\ s6 = .slice A n c /\ dr.size = gg /\ dr.size <= 140737488351232 /\ n <= 129 /\ Hid (Pa w wr r N d.data.toList (.slice A n c) n xs dr.data.toList))
   case atStart => exact ⟨d, none, 0, 0, [], rfl, rfl, rfl, hs, by omega, ⟨HB.out.2, World.ownsRow_nil _ _ _ _, Ok.nil, Nz.nil, by rw [zD6, Nat.zero_mul, Nat.zero_add]; exact HF.out.2.2, zP4 HF.out.1, .inl ⟨rfl, rfl, rfl, rfl⟩, HB.out.1⟩⟩
   case round =>
    obtain ⟨dr, A, n, c, xs, rfl, rfl, rfl, hds, hn9, HPa⟩ := hrel
    obtain ⟨A9, c9, e9, hsl⟩ := zH9 HPa.out.own (by omega) HPa.out.ok
    injection e9 with e9 _ e9c
    subst e9
    subst e9c
    have hl2 : dr.data.toList.length = dr.size := by simp
    have b0 := HPa.out.bx
    have k3 := b0.c0
    have k4 := b0.c1
    have k5 := b0.f 0
    have k6 := b0.f 1
    have lr := b0.lt
    by_cases hd0 : dr.size = 0
    . have HX := hI (show val xs = N by
       have a := HPa.out.sum
       have e : dr.data.toList = [] := List.eq_nil_of_length_eq_zero (by rw [hl2]; exact hd0)
       rw [e, List.length_nil, Nat.pow_zero, Nat.mul_one, dnum_nil] at a
       exact a)
      clear k3 k4 k5 k6 lr hl2
      go_wp2_with fail
      refine (zF0 true _ _ _ xs _ hsl HPa.out.nz).mono ?_
      rintro e w5 ⟨A5, n5, c5, xs5, rfl, hs5, hx5, hv5, hb5⟩
      have b0 := b0.below hb5 b0.lt
      have k3 := b0.c0
      have k4 := b0.c1
      have k5 := b0.f 0
      have k6 := b0.f 1
      have H5 := hI (And.intro hx5 hv5)
      have HB5 := hI (zA HPa.out.be (Nat.le_of_lt HPa.out.bx.lt) hb5)
      clear hx5 hv5 hb5
      go_wp2
      refine bodyPost_ret (v := .tuple #[.agg #[.bool (decide (fitZ (sg true (val xs)) < 0)), .slice A5 n5 c5], .int .i64 (fitE (sg true (val xs)))]) (by simp [results, Tryz.results39, go_sem, k3, k4]) rfl
       ⟨A5, n5, c5, xs5, by rw [HX.out], hs5.ret b0 _ _, H5.out.1, by rw [H5.out.2, HX.out], by rw [HR.out]; exact zA1 HB5.out (Nat.le_refl _) _ _⟩
    . have hd1 : (0 : Int) < (dr.size : Int) := by omega
      by_cases hn : n <= 128
      . have i1 : (n : Int) <= 128 := by omega
        obtain ⟨m, hm⟩ : ∃ m, (dr.size - 1) % 9 + 1 = m := ⟨_, rfl⟩
        have hm9 : m <= 9 /\ 1 <= m /\ m <= dr.size := by omega
        have i2 : ((dr.size : Int) - 1) % 9 + 1 = (m : Int) := by omega
        have HM := hI (And.intro hm hl2)
        have HG := hI (group_sum HPa.out.sum (m := m) (by omega))
        have HD := hI (And.intro (fun x hx => HPa.out.dig x (List.mem_of_mem_take (i := m) hx)) (fun x hx => HPa.out.dig x (List.mem_of_mem_drop (i := m) hx)))
        have et : (dr.extract 0 m).data.toList = dr.data.toList.take m := Lib.Pa.extract_upto_list dr m
        have ed : (dr.extract m dr.size).data.toList = dr.data.toList.drop m := Lib.extract_to_end dr m
        have es : (dr.extract 0 m).size = m := by simp; omega
        have es2 : (dr.extract m dr.size).size = dr.size - m := by simp
        have HE := hI (And.intro et (And.intro ed (And.intro es es2)))
        have K := zM3 (dr.extract 0 m) wr (by omega) (by rw [et]; exact HD.out.1)
        rw [et] at K
        have HS9 := hI (show dnum (dr.data.toList.take m) < 1000000000 by
         have a := dnum_lt HD.out.1
         have b : (10 : Nat) ^ (dr.data.toList.take m).length <= 10 ^ 9 := Nat.pow_le_pow_right (by decide) (by rw [List.length_take]; omega)
         exact Nat.lt_of_lt_of_le a b)
        have HK := hI K
        clear et ed es es2 K hl2
        have hmi : (m : Int) <= (dr.size : Int) := by omega
        go_wp2_with fail
        refine HK.out.mono ?_
        rintro e w2 ⟨rfl, rfl⟩
        generalize hsm : dnum (dr.data.toList.take m) = sm at *
        rcases HPa.out.st with ⟨hl, hv, rfl, rfl⟩ | ⟨hM, h9⟩
        . injection hv with hv1 _ hv3
          subst hv1
          subst hv3
          have hsm0 : 0 < sm := by rw [<- hsm, hl]; exact head_pos HF.out.1 HF.out.2.1 hm9.2.1
          have t1 : (0 : Int) < (sm : Int) := by omega
          have hsm9 : sm < 4294967296 := by have := HS9.out; omega
          have hrow : Row (wr.alloc (.cells #[.int .u32 (sm : Int)] 64)) wr.heap.size [sm] := Blk.new wr _ _
          have Hown := hI (HPa.out.own.alloc (.cells #[.int .u32 (sm : Int)] 64))
          have Hrow := hI hrow
          clear hrow hl hsm
          go_wp2_with fail
          refine (scale_nil 1000000000 sm _ hsm9).mono ?_
          rintro e w2 ⟨rfl, rfl⟩
          go_wp2_with (with_reducible refine app_one rfl (.tmp 48) (.tmp 50) rfl (r + 1) 0 wr.heap.size sm (.slice none 0 0) [] rfl Hown.out rfl Hrow.out hsm9 (by omega) (by simp; omega) ?_; intro v' w' ho hg)
          have HN9 := hI (show Pa w w' r N d.data.toList v' (0 + 1) ([] ++ [sm]) (dr.extract m dr.size).data.toList from by
           refine ⟨Blk.grown (HPa.out.bx.alloc _) hg (by simp [Value.ownBlock]), ho, Ok.cons hsm9 Ok.nil, nz_snoc (by omega), ?_, by rw [HE.out.2.1]; exact HD.out.2, .inr ⟨by simp [val]; exact hsm0, ?_⟩, (HPa.out.be.alloc (Nat.le_of_lt HPa.out.bx.lt) _).grown hg (by have := HPa.out.bx.lt; simp; omega) (fun k hk => by cases hk)⟩
           . rw [HE.out.2.1]
             have a := HG.out
             rw [zD6, Nat.zero_mul, Nat.zero_add] at a
             rw [List.nil_append, zJ6, zD6, Nat.mul_zero, Nat.add_zero]
             exact a
           . rw [HE.out.2.1, List.length_drop, HM.out.2]
             have := HM.out.1
             omega)
          have H2 := hI HE.out.2.2.2
          obtain ⟨A7, c7, rfl, -⟩ := zH9 HN9.out.own (by omega) HN9.out.ok
          clear ho hg k3 k4 k5 k6 lr
          go_wp2
          go_roundg (dr.size - m)
          case measure => omega
          case rel => exact ⟨dr.extract m dr.size, A7, 0 + 1, c7, [] ++ [sm], rfl, rfl, H2.out, by have := H2.out; omega, by omega, HN9.out⟩
        . have hn0 : 0 < n := by
           rcases Nat.eq_zero_or_pos n with e | e
           . have := zI1 HPa.out.own
             rw [e] at this
             rw [List.eq_nil_of_length_eq_zero this] at hM
             simp [val] at hM
           . exact e
          obtain ⟨g, rfl, hgr⟩ : ∃ g, A = some ⟨g, 0, none⟩ /\ r + 1 <= g := by
           rcases HPa.out.own.2 with ⟨_, e⟩ | ⟨g, cap, cur, e, hb, _⟩
           . omega
           . injection e with e _ _
             exact ⟨g, e, hb⟩
          have hm99 : m = 9 := by
           rw [HM.out.2] at h9
           have := HM.out.1
           omega
          have HSM := hI (And.intro hsm (And.intro hM (And.intro h9 hm99)))
          have hsm9 : sm < 4294967296 := by have := HS9.out; omega
          clear hsm hM h9 hm99
          go_wp2_with fail
          refine (scale_own (r + 1) g n c 1000000000 sm xs _ HPa.out.own HPa.out.ok (by omega) hsm9 (by omega)).mono ?_
          rintro e w2 ⟨xs2, cy, rfl, ho2, hk2, hv2, hcy, hg2⟩
          have HV2 := hI (show val xs2 + 4294967296 ^ n * cy = val xs * 10 ^ m + sm from by rw [hv2, HSM.out.2.2.2])
          have HB2 := hI (And.intro (Blk.grown HPa.out.bx hg2 (by simp; omega)) (HPa.out.be.grown hg2 (Nat.le_of_lt HPa.out.bx.lt) (fun k hk => by injection hk with hk; omega)))
          have HO2 := hI (And.intro ho2 hk2)
          have HST := hI (show (dr.extract m dr.size).data.toList.length % 9 = 0 from by
           rw [HE.out.2.1, List.length_drop, HM.out.2]
           have := HM.out.1
           have := HSM.out.2.2.1
           rw [HM.out.2] at this
           omega)
          have H2 := hI HE.out.2.2.2
          clear hv2 ho2 hk2 hg2 k3 k4 k5 k6 lr
          by_cases hcy0 : cy = 0
          . subst hcy0
            have HN9 := hI (show Pa w w2 r N d.data.toList (.slice (some ⟨g, 0, none⟩) n c) n xs2 (dr.extract m dr.size).data.toList from by
             have a := HV2.out
             rw [Nat.mul_zero, Nat.add_zero] at a
             have hge : val xs * 1 <= val xs * 10 ^ m := Nat.mul_le_mul_left _ (Nat.pow_pos (by decide))
             have hxp := HSM.out.2.1
             refine ⟨HB2.out.1, HO2.out.1, HO2.out.2, nz_of_ge (n := n - 1) HO2.out.2 (by rw [zI1 HO2.out.1]; omega) ?_, ?_, by rw [HE.out.2.1]; exact HD.out.2, .inr ⟨by omega, HST.out⟩, HB2.out.2⟩
             . have := zQ8 HPa.out.nz (by rintro rfl; simp [val] at hxp)
               rw [zI1 HPa.out.own] at this
               omega
             . rw [HE.out.2.1, a]
               exact HG.out)
            go_wp2
            go_roundg (dr.size - m)
            case measure => omega
            case rel => exact ⟨dr.extract m dr.size, some ⟨g, 0, none⟩, n, c, xs2, rfl, rfl, H2.out, by have := H2.out; omega, by omega, HN9.out⟩
          . have t1 : (0 : Int) < (cy : Int) := by omega
            have hrow : Row (w2.alloc (.cells #[.int .u32 (cy : Int)] 64)) w2.heap.size [cy] := Blk.new w2 _ _
            have Hown := hI (HO2.out.1.alloc (.cells #[.int .u32 (cy : Int)] 64))
            have Hrow := hI hrow
            clear hrow
            have hw2 : r + 1 <= w2.heap.size := by have := HB2.out.1.lt; omega
            go_wp2_with (with_reducible refine app_one rfl (.tmp 48) (.tmp 50) rfl (r + 1) n w2.heap.size cy (.slice (some ⟨g, 0, none⟩) n c) xs2 rfl Hown.out rfl Hrow.out hcy (by omega) (by simp; omega) ?_; intro v' w' ho hg)
            have HN9 := hI (show Pa w w' r N d.data.toList v' (n + 1) (xs2 ++ [cy]) (dr.extract m dr.size).data.toList from by
             have a := HV2.out
             have hxp := HSM.out.2.1
             have hge : val xs * 1 <= val xs * 10 ^ m := Nat.mul_le_mul_left _ (Nat.pow_pos (by decide))
             have ev : val (xs2 ++ [cy]) = val xs * 10 ^ m + sm := by rw [val_snoc, zI1 HO2.out.1]; exact a
             refine ⟨Blk.grown (HB2.out.1.alloc _) hg (by simp [Value.ownBlock]; omega), ho, HO2.out.2.app (Ok.cons hcy Ok.nil), nz_snoc hcy0, ?_, by rw [HE.out.2.1]; exact HD.out.2, .inr ⟨by rw [ev]; omega, HST.out⟩, (HB2.out.2.alloc (Nat.le_of_lt HB2.out.1.lt) _).grown hg (by simp; omega) (fun k hk => by simp [Value.ownBlock] at hk; omega)⟩
             rw [HE.out.2.1, ev]
             exact HG.out)
            obtain ⟨A7, c7, rfl, -⟩ := zH9 HN9.out.own (by omega) HN9.out.ok
            clear ho hg
            go_wp2
            go_roundg (dr.size - m)
            case measure => omega
            case rel => exact ⟨dr.extract m dr.size, A7, n + 1, c7, xs2 ++ [cy], rfl, rfl, H2.out, by have := H2.out; omega, by omega, HN9.out⟩
      . have i1 : (128 : Int) < (n : Int) := by omega
        have HBG := hI (show BIG <= N by
         have a := zQ8 HPa.out.nz (by rintro rfl; have := zI1 HPa.out.own; simp at this; omega)
         rw [zI1 HPa.out.own] at a
         have b : (4294967296 : Nat) ^ 128 <= 4294967296 ^ (n - 1) := Nat.pow_le_pow_right (by decide) (by omega)
         have c := HPa.out.sum
         have d : val xs * 1 <= val xs * 10 ^ dr.data.toList.length := Nat.mul_le_mul_left _ (Nat.pow_pos (by decide))
         have e : BIG = 4294967296 ^ 128 := rfl
         rw [e]
         generalize (4294967296 : Nat) ^ 128 = P at *
         omega)
        have hf := fit_no (z := sg true N) (by rw [zD3]; exact Nat.not_lt.2 HBG.out)
        rw [hf.1, hf.2]
        clear hf
        go_wp2
        exact bodyPost_ret (v := .tuple #[.agg #[.bool false, .slice none 0 0], .int .i64 2]) (by simp [results, Tryz.results39, go_sem, k3, k4]) rfl
         ⟨none, 0, 0, [], rfl, Sl.nil _ _, Nz.nil, rfl, by rw [HR.out]; exact zA1 HPa.out.be (Nat.le_refl _) _ _⟩
def txB : Option Int -> List UInt8
 | none => []
 | some z => decT z
def txE : Option Int -> Int
 | none => 1
 | some _ => 0
theorem text_bad (neg : Bool) (A : Option Addr) (n c : Nat) (xs : List Nat) (w : World) (h : Sl w w.heap.size A n c xs) (hv : vld neg xs = false) :
 Calls Tryz.prog 36 #[.agg #[.bool neg, .slice A n c]] w fun e w' => e = .returned (.tuple #[.string ⟨#[]⟩, .int .i64 1]) /\ Below w.heap.size w w' := by
 go_enter Tryz.func36, Tryz.ntmps36
 go_wp2_with fail
 generalize hW : World.alloc w _ = W
 have hb : Below w.heap.size w W := by subst hW; exact (Below.refl _ _).alloc (Nat.le_refl _) _
 have hs := h.on hb
 clear hW
 refine (zA4 _ _ _ _ _ xs _ hs (Nat.le_refl _)).mono ?_
 rintro e w1 ⟨rfl, hb1⟩
 have HB := hI (zA hb hb.size hb1)
 rw [hv]
 go_wp2
 go_ret2
 exact ⟨rfl, HB.out⟩
theorem text_nil (neg : Bool) (A : Option Addr) (c : Nat) (w : World) (h : Sl w w.heap.size A 0 c []) (hv : vld neg [] = true) :
 Calls Tryz.prog 36 #[.agg #[.bool neg, .slice A 0 c]] w fun e w' => e = .returned (.tuple #[.string ⟨#[48]⟩, .int .i64 0]) /\ Below w.heap.size w w' := by
 go_enter Tryz.func36, Tryz.ntmps36
 go_wp2_with fail
 generalize hW : World.alloc w _ = W
 have hb : Below w.heap.size w W := by subst hW; exact (Below.refl _ _).alloc (Nat.le_refl _) _
 have b0 : Bx W w.heap.size neg A 0 c := by subst hW; exact Bx.new _ _ _ _ _
 have hs := h.on hb
 clear hW
 refine (zA4 _ _ _ _ _ [] _ hs (Nat.le_refl _)).mono ?_
 rintro e w1 ⟨rfl, hb1⟩
 have HB := hI (zA hb hb.size hb1)
 have b0 := b0.below hb1 b0.lt
 have k0 := b0.c0
 have k1 := b0.c1
 rw [hv]
 go_wp2
 go_ret2
 exact ⟨rfl, HB.out⟩
theorem text_ov {neg : Bool} {A : Option Addr} {n c : Nat} {xs : List Nat} {w : World} (h : Sl w w.heap.size A n c xs) :
 Calls Tryz.prog 36 #[.agg #[.bool neg, .slice A n c]] w fun e w' => e = .returned (.tuple #[.string ⟨(txB (ov neg xs)).toArray⟩, .int .i64 (txE (ov neg xs))]) /\ Below w.heap.size w w' := by
 rcases hv : vld neg xs with _ | _
 . rw [zG hv]
   exact text_bad neg A n c xs w h hv
 . rw [zE4 hv]
   have hl := h.len
   by_cases h0 : n = 0
   . subst h0
     obtain rfl := List.eq_nil_of_length_eq_zero hl
     have e : sg neg (val []) = 0 := by rw [(zA2 hv).2.2 rfl]; rfl
     rw [e]
     exact text_nil neg A c w h hv
   . have hp : 0 < val xs := zB4 (zA2 hv).2.1 (by rintro rfl; simp at hl; omega)
     have e : txB (some (sg neg (val xs))) = (if neg then [45] else []) ++ dec (val xs) := by
      show decT _ = _
      unfold decT
      cases neg
      . rw [zB7, if_neg (by omega), if_neg (by omega)]; rfl
      . rw [zC7, if_neg (by omega), if_pos (by omega), show (-(val xs : Int)).natAbs = val xs by omega]; rfl
     rw [e]
     exact text_good neg A n c xs w h hv (by omega) (val xs) rfl
theorem cut_len (l : List UInt8) : (Lib.trimPrefix l [45]).length <= l.length := by
 unfold Lib.trimPrefix
 split
 . rw [List.length_drop]; omega
 . exact Nat.le_refl _
theorem parse_ov (s : ByteArray) (w : World) (hs : s.size <= 140737488351232) : Calls Tryz.prog 39 #[.string s] w (zB0 (prZ s.data.toList) (prE s.data.toList) w) := by
 have hl := cut_len s.data.toList
 have hsz : s.data.toList.length = s.size := by simp
 have C : ∀ w : World, Calls Tryz.prog 73 #[.string s, .string ⟨#[45]⟩] w fun e w' => e = .returned (.tuple #[.string ⟨(Lib.trimPrefix s.data.toList [45]).toArray⟩, .bool (Lib.hasPrefix s.data.toList [45])]) /\ w' = w := fun w => Tryz.strings_CutPrefix s ⟨#[45]⟩ w
 have hd : (⟨(Lib.trimPrefix s.data.toList [45]).toArray⟩ : ByteArray).data.toList = Lib.trimPrefix s.data.toList [45] := rfl
 have hds : (⟨(Lib.trimPrefix s.data.toList [45]).toArray⟩ : ByteArray).size <= 140737488351232 := by
  show (Lib.trimPrefix s.data.toList [45]).toArray.size <= _
  rw [List.size_toArray]; omega
 unfold prZ prE prs
 generalize (⟨(Lib.trimPrefix s.data.toList [45]).toArray⟩ : ByteArray) = d at *
 rw [<- hd]
 generalize Lib.hasPrefix s.data.toList [45] = neg at *
 rcases hc : zK8 d.data.toList with _ | _
 . exact parse_form s d neg w hds C (.inl hc)
 . by_cases h48 : d.data.toList = [48]
   . cases neg
     . rw [h48]
       have := parse_zero s d w hds C h48
       simpa [zB7, dnum, fitZ, fitE, zR2] using this
     . rw [h48]
       exact parse_form s d true w hds C (.inr ⟨hc, rfl, h48⟩)
   . have e : (d.data.toList == [48]) = false := by rw [beq_eq_false_iff_ne]; exact h48
     rw [e, Bool.and_false, Bool.not_false, Bool.and_true, if_pos rfl]
     exact parse_num s d neg w hds C hc h48 _ rfl
theorem has_minus (l : List UInt8) : Lib.hasPrefix (45 :: l) [45] = true /\ Lib.trimPrefix (45 :: l) [45] = l := by
 have e : Lib.hasPrefix (45 :: l) [45] = true := by simp [Lib.hasPrefix]
 exact ⟨e, by unfold Lib.trimPrefix; rw [if_pos e]; rfl⟩
theorem no_minus {l : List UInt8} (h : l.head? ≠ some 45) : Lib.hasPrefix l [45] = false /\ Lib.trimPrefix l [45] = l := by
 have e : Lib.hasPrefix l [45] = false := by
  unfold Lib.hasPrefix
  rcases l with _ | ⟨c, l⟩
  . rfl
  . have : c ≠ 45 := fun e => h (by rw [e]; rfl)
    simp only [List.isPrefixOf_cons_cons, Bool.and_eq_false_iff, beq_eq_false_iff_ne]
    exact .inl (fun e => this e.symm)
 exact ⟨e, by unfold Lib.trimPrefix; rw [e]; rfl⟩
theorem minus_or (l : List UInt8) : (∃ t, l = 45 :: t) \/ l.head? ≠ some 45 := by
 rcases l with _ | ⟨c, l⟩
 . right; simp
 . by_cases h : c = 45
   . left; exact ⟨l, by rw [h]⟩
   . right; simpa using h
theorem num_canon {l : List UInt8} (h : zK8 l = true) (h1 : l ≠ [48]) : dec (dnum l) = l /\ 0 < dnum l := by
 have hp := head_pos h h1 (m := l.length) (by
  rcases l with _ | ⟨c, t⟩
  . cases h
  . simp)
 rw [List.take_length] at hp
 refine ⟨num_dec (zP4 h) ?_, hp⟩
 rcases l with _ | ⟨c, t⟩
 . simp
 . intro e
   have e2 : c = 48 := by simpa using e
   subst e2
   by_cases ht : t = []
   . exact h1 (by rw [ht])
   . rw [zQ7 ht] at h; cases h
theorem zS1 {l : List UInt8} {z : Int} (h : prs l = some z) : decT z = l := by
 unfold prs at h
 split at h
 . rename_i hc
   rw [Bool.and_eq_true] at hc
   injection h with h
   rcases minus_or l with ⟨t, rfl⟩ | hm
   . have m := has_minus t
     rw [m.1, m.2] at h hc
     have ht : t ≠ [48] := by
      rintro rfl
      exact absurd hc.2 (by decide)
     have q := num_canon hc.1 ht
     rw [zC7] at h
     unfold decT
     rw [if_neg (by omega), if_pos (by omega), show z.natAbs = dnum t by omega, q.1]
     rfl
   . have m := no_minus hm
     rw [m.1, m.2] at h hc
     rw [zB7] at h
     by_cases h48 : l = [48]
     . subst h48
       have : z = 0 := by rw [<- h]; rfl
       rw [this]; rfl
     . have q := num_canon hc.1 h48
       unfold decT
       rw [if_neg (by omega), if_neg (by omega), show z.natAbs = dnum l by omega, q.1]
       rfl
 . cases h
end Go.Proofs.YtphinlongdoedaaGreat
