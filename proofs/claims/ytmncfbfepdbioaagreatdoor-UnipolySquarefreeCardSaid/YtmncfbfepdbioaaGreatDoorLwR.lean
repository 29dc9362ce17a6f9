/-
 Stage 3: the text of a polynomial. Stage 3: what a law of the layer keeps in hand (Lm), the values of the laws' own test, and linear's list as one of the call's own. Stage 3: the laws' own test says yes. Stage 3: UnipolyRing.
-/
import Derived.Test.YtmncfbfepdbioaaGreatDoorUniBu
import Derived.Test.YtmncfbfepdbioaaGreatDoorUniMf
import Derived.Test.YtmncfbfepdbioaaGreatDoorRatL
import Derived.Test.YtmncfbfepdbioaaGreatDoorPolQ
set_option linter.unusedSimpArgs false
set_option linter.unusedVariables false
set_option maxRecDepth 20000
set_option maxHeartbeats 4000000
namespace Go.Proofs.YtmncfbfepdbioaaGreatDoor
open Go.RowKit
def sepU (a b : Bool) : List UInt8 := bif a then (bif b then [45] else []) else (bif b then [32, 45, 32] else [32, 43, 32])
def powU (i : Nat) : List UInt8 := if 1 < i then 120 :: 94 :: Lib.decDigits i else [120]
def termU (s : List UInt8) (i : Nat) : List UInt8 := if i = 0 then s else if s = [49] then powU i else s ++ 42 :: powU i
def pcU (n : Nat) (x : Rat) (i : Nat) : List UInt8 := if x.num = 0 then [] else sepU ((i : Int) == (n : Int) - 1) (Lib.hasPrefix (rtx x) [45]) ++ termU (Lib.trimPrefix (rtx x) [45]) i
def pcsU (l : List Rat) : Nat -> List UInt8
 | 0 => []
 | d + 1 => pcsU l d ++ pcU l.length (coef l (l.length - 1 - d)) (l.length - 1 - d)
def utx (l : List Rat) : List UInt8 := if l.length = 0 then [48] else pcsU l l.length
theorem sepU_len (a b : Bool) : (sepU a b).length <= 3 := by cases a <;> cases b <;> decide
theorem digits_len {i : Nat} (h : i < 100) : (Lib.decDigits i).length <= 2 := by
 rw [Lib.decDigits]
 by_cases h1 : i < 10
 . rw [dif_pos h1]; simp
 . rw [dif_neg h1, Lib.decDigits, dif_pos (by omega)]; simp
theorem powU_len {i : Nat} (h : i < 100) : (powU i).length <= 4 := by
 unfold powU
 have := digits_len h
 split
 . simp only [List.length_cons]; omega
 . decide
theorem termU_len {s : List UInt8} {i : Nat} (h : i < 100) (hs : s.length <= 5000) : (termU s i).length <= 6000 := by
 unfold termU
 have := powU_len h
 split
 . omega
 . split
   . omega
   . rw [List.length_append, List.length_cons]; omega
theorem trimP_len (s p : List UInt8) : (Lib.trimPrefix s p).length <= s.length := by
 unfold Lib.trimPrefix
 split
 . rw [List.length_drop]; omega
 . exact Nat.le_refl _
theorem rtx_len {q : RVal} {x : Rat} {w : World} (h : q.In w) (hx : rv q.o q.od = some x) : (rtx x).length <= 5000 := by
 have h1 := decT_len (ov_lt h.1.ok (rv_some hx).1)
 have h2 := decT_len (ov_lt h.2.ok (rv_some hx).2)
 unfold rtx
 split
 . omega
 . rw [List.length_append, List.length_cons]; omega
theorem bld_on {T e : TypeId} {B b : Nat} {bs : List Value} {w w' : World} (h : Lib.IsBuilder T e B b bs w) (hb : Below w.heap.size w w') : Lib.IsBuilder T e B b bs w' := by
 have key : ∀ p, Lib.BuilderAt T e B b p bs w -> Lib.BuilderAt T e B b p bs w' := by
  intro p k
  have l := k.lt
  obtain ⟨k1, v, k2, k3, k4⟩ := k
  exact ⟨k1, v, by rw [hb.block b l]; exact k2, k3.kept (row := none) ⟨hb.os, hb.tape, hb.output, hb.size, fun k hk _ => hb.block k hk⟩ (by cases v.ownBlock <;> simp), k4⟩
 rcases h with h | h
 . exact .inl (key _ h)
 . exact .inr (key _ h)
theorem sep_any (a b : Bool) (w : World) : Calls Tryz.prog 147 #[.bool a, .bool b] w fun e w' => e = .returned (.string ⟨(sepU a b).toArray⟩) /\ w = w' := by
 cases a <;> cases b
 all_goals
  go_enter Tryz.func147, Tryz.ntmps147
  go_wp2
  go_ret
  exact ⟨rfl, rfl⟩
theorem term_any (s : List UInt8) (i : Nat) (w : World) (hi : i < 100) (hs : s.length <= 5000) : Calls Tryz.prog 148 #[.string ⟨s.toArray⟩, .int .i64 i] w fun e w' => e = .returned (.string ⟨(termU s i).toArray⟩) /\ w = w' := by
 by_cases h0 : i = 0
 . subst h0
   go_enter Tryz.func148, Tryz.ntmps148
   go_wp2
   go_ret
   exact ⟨rfl, rfl⟩
 . have h3 : ¬ (i : Int) = 0 := by omega
   have n3 : ¬ 9223372036854775807 < s.length + 1 := by omega
   by_cases h1 : 1 < i
   . have hd := digits_len hi
     have n1 : ¬ 9223372036854775807 < 1 + (Lib.decDigits i).length := by omega
     have n2 : ¬ 9223372036854775807 < 1 + (1 + (Lib.decDigits i).length) := by omega
     have n4 : ¬ 9223372036854775807 < s.length + 1 + (1 + (1 + (Lib.decDigits i).length)) := by omega
     have h2 : (1 : Int) < i := by omega
     by_cases h4 : s = [49]
     . have HT := hI (show termU s i = 120 :: 94 :: Lib.decDigits i by unfold termU powU; rw [if_neg h0, if_pos h4, if_pos h1])
       have h5 : (s == [49]) = true := by rw [beq_iff_eq]; exact h4
       clear h4 hs hd h0 h1
       go_enter Tryz.func148, Tryz.ntmps148
       go_wp2_with fail
       refine (Tryz.strconv_Itoa_small i hi w).mono ?_
       rintro e w' ⟨rfl, rfl⟩
       go_wp2
       go_ret
       refine ⟨?_, rfl⟩
       rw [HT.out]
       have e1 : (⟨#[94]⟩ : ByteArray) = ⟨([94] : List UInt8).toArray⟩ := rfl
       have e2 : (⟨#[120]⟩ : ByteArray) = ⟨([120] : List UInt8).toArray⟩ := rfl
       rw [e1, e2, cat_arr, cat_arr]
       rfl
     . have HT := hI (show termU s i = s ++ 42 :: 120 :: 94 :: Lib.decDigits i by unfold termU powU; rw [if_neg h0, if_neg h4, if_pos h1])
       have h5 : (s == [49]) = false := by rw [beq_eq_false_iff_ne]; exact h4
       clear h4 hs hd h0 h1
       go_enter Tryz.func148, Tryz.ntmps148
       go_wp2_with fail
       refine (Tryz.strconv_Itoa_small i hi w).mono ?_
       rintro e w' ⟨rfl, rfl⟩
       go_wp2
       go_ret
       refine ⟨?_, rfl⟩
       rw [HT.out]
       have e1 : (⟨#[94]⟩ : ByteArray) = ⟨([94] : List UInt8).toArray⟩ := rfl
       have e2 : (⟨#[120]⟩ : ByteArray) = ⟨([120] : List UInt8).toArray⟩ := rfl
       have e3 : (⟨#[42]⟩ : ByteArray) = ⟨([42] : List UInt8).toArray⟩ := rfl
       rw [e1, e2, e3, cat_arr, cat_arr, cat_arr, cat_arr, List.append_assoc]
       rfl
   . have e0 : i = 1 := by omega
     subst e0
     have n4 : ¬ 9223372036854775807 < s.length + 1 + 1 := by omega
     by_cases h4 : s = [49]
     . have HT := hI (show termU s 1 = [120] by unfold termU powU; rw [if_neg h0, if_pos h4, if_neg h1])
       have h5 : (s == [49]) = true := by rw [beq_iff_eq]; exact h4
       clear h4 hs h0 h1 h3
       go_enter Tryz.func148, Tryz.ntmps148
       go_wp2
       go_ret
       refine ⟨?_, rfl⟩
       rw [HT.out]
       rfl
     . have HT := hI (show termU s 1 = s ++ 42 :: [120] by unfold termU powU; rw [if_neg h0, if_neg h4, if_neg h1])
       have h5 : (s == [49]) = false := by rw [beq_eq_false_iff_ne]; exact h4
       clear h4 hs h0 h1 h3
       go_enter Tryz.func148, Tryz.ntmps148
       go_wp2
       go_ret
       refine ⟨?_, rfl⟩
       rw [HT.out]
       have e2 : (⟨#[120]⟩ : ByteArray) = ⟨([120] : List UInt8).toArray⟩ := rfl
       have e3 : (⟨#[42]⟩ : ByteArray) = ⟨([42] : List UInt8).toArray⟩ := rfl
       rw [e2, e3, cat_arr, cat_arr, List.append_assoc]
       rfl
theorem Builder_String_get {B b : Nat} {l : List UInt8} {w : World} (h : Lib.IsBuilder 126 5 B b (Lib.byteCells l) w) (hB : B <= w.heap.size) : Calls Tryz.prog 149 #[.pointer (some ⟨b, 0, none⟩)] w fun e w' => e = .returned (.string ⟨l.toArray⟩) /\ Below B w w' := Tryz.Builder_String_any B b l w h hB
def TxR (w : World) (A : Option Addr) (n c : Nat) (L : List RVal) (l : List Rat) (k : Nat) (wr : World) : Prop :=
 k <= n /\ PSl wr A n c L /\ Lib.IsBuilder 126 5 w.heap.size w.heap.size (Lib.byteCells (pcsU l (n - k))) wr /\ (pcsU l (n - k)).length <= 7000 * (n - k) /\ Below w.heap.size w wr
theorem pcU_len {n i : Nat} {x : Rat} (hi : i < 100) (h : (rtx x).length <= 5000) : (pcU n x i).length <= 7000 := by
 unfold pcU
 split
 . simp
 . have h1 := sepU_len ((i : Int) == (n : Int) - 1) (Lib.hasPrefix (rtx x) [45])
   have h2 := termU_len (s := Lib.trimPrefix (rtx x) [45]) hi (Nat.le_trans (trimP_len _ _) h)
   rw [List.length_append]
   omega
theorem pcsU_step {l : List Rat} {n k : Nat} (hn : l.length = n) (hk : k + 1 <= n) : pcsU l (n - k) = pcsU l (n - (k + 1)) ++ pcU n (coef l k) k := by
 have e : n - k = (n - (k + 1)) + 1 := by omega
 rw [e]
 show pcsU l (n - (k + 1)) ++ pcU l.length (coef l (l.length - 1 - (n - (k + 1)))) (l.length - 1 - (n - (k + 1))) = _
 have e2 : l.length - 1 - (n - (k + 1)) = k := by omega
 rw [e2, hn]
theorem bsize (l : List UInt8) : (⟨l.toArray⟩ : ByteArray).size = l.length := List.size_toArray ..
theorem text_any (A : Option Addr) (n c : Nat) (L : List RVal) (l : List Rat) (w : World) (h : PSl w A n c L) (hv : Vs L l) (hn : n <= 65) : Calls Tryz.prog 104 #[.slice A n c] w fun e w' => e = .returned (.string ⟨(utx l).toArray⟩) /\ Below w.heap.size w w' := by
 have hl : l.length = n := by rw [<- hv.len, h.len]
 have HL := hI hl
 by_cases h0 : n = 0
 . have HE := hI (show utx l = [48] by unfold utx; rw [if_pos (by omega)])
   subst h0
   clear h hv hl
   go_enter Tryz.func104, Tryz.ntmps104
   go_wp2
   go_ret
   exact ⟨by rw [HE.out]; rfl, Below.refl _ _⟩
 . have HE := hI (show utx l = pcsU l n by unfold utx; rw [if_neg (by omega), hl])
   have HV := hI hv
   have HP0 := hI h
   have hn0 : ((n : Int) == 0) = false := by rw [beq_eq_false_iff_ne]; omega
   have hn1 := below_new w (.cells #[.pointer none, .slice none 0 0] 126)
   have H0 := hI (show TxR w A n c L l n (w.alloc (.cells #[.pointer none, .slice none 0 0] 126)) from
    ⟨Nat.le_refl _, h.on hn1, by rw [Nat.sub_self]; exact Lib.fresh_isBuilder _ _ w, by rw [Nat.sub_self]; exact Nat.le_refl _, hn1⟩)
   clear h hv hl hn1
   go_enter Tryz.func104, Tryz.ntmps104
   go_wp2_with fail
   go_loopw [4] (fun v wr => ∃ (k : Nat) (i : Int), v = .int .i64 i /\ i = (k : Int) - 1 /\ Hid (TxR w A n c L l k wr)) (fun v _ => (intOf v + 1).toNat)
   case atStart => exact ⟨n, _, rfl, rfl, H0⟩
   case round =>
    obtain ⟨k, i, rfl, hi0, HR⟩ := hrel
    clear H0
    have hk := HR.out.1
    rcases k with _ | k
    . have hi : i = -1 := by omega
      clear hi0
      subst hi
      have HB := hI HR.out.2.2.2.2
      have C := Builder_String_get HR.out.2.2.1 HB.out.size
      rw [Nat.sub_zero, <- HE.out] at C
      have HC := hI C
      clear C HR
      go_wp2_with fail
      refine HC.out.mono ?_
      rintro e w1 ⟨rfl, hb⟩
      have HB2 := hI (HB.out.trans hb)
      clear hb HB HC
      go_wp2
      go_ret
      exact ⟨rfl, HB2.out⟩
    . have hi : i = (k : Int) := by omega
      clear hi0
      subst hi
      obtain ⟨ad, q, p, rfl, hq, hp⟩ := HR.out.2.1.el hk
      have HQ := hI (HR.out.2.1.ins q (List.mem_of_getElem? hq))
      have HX := hI (HV.out.at_ hq)
      have HZ := hI (n_zero HQ.out HX.out)
      obtain ⟨c0, c1, c2, c3⟩ := HR.out.2.1.c4 rfl hq hp
      have HS := hI (pcsU_step HL.out hk)
      have HK := hI hq
      clear hq
      by_cases hz : (coef l k).num = 0
      . have HZ1 := hI (HZ.out.trans (decide_eq_true hz))
        have C0 := hI fun W h => by have C := uisZero_any q W h; rw [HZ1.out] at C; exact C
        have HP := hI (show pcU n (coef l k) k = [] by unfold pcU; rw [if_pos hz])
        have HR1 := hI (show ∀ W, Below wr.heap.size wr W -> TxR w (some ad) n c L l k W from fun W hb => by
         refine ⟨by omega, HR.out.2.1.on hb, ?_, ?_, below_chain HR.out.2.2.2.2 HR.out.2.2.2.2.size hb⟩
         . rw [HS.out, HP.out, List.append_nil]; exact bld_on HR.out.2.2.1 hb
         . rw [HS.out, HP.out, List.append_nil]; have := HR.out.2.2.2.1; omega)
        clear hz HZ HZ1 HP HS
        go_wp2_with fail
        refine (C0.out wr HQ.out).mono ?_
        rintro e w1 ⟨rfl, hb⟩
        have HR2 := hI (HR1.out w1 hb)
        clear hb c0 c1 c2 c3 HR HR1 HQ C0
        go_wp2
        go_roundw
        case rel => exact ⟨k, _, rfl, rfl, HR2⟩
        case measure => simp [intOf]
      . have HZ1 := hI (HZ.out.trans (decide_eq_false hz))
        have C0 := hI fun W h => by have C := uisZero_any q W h; rw [HZ1.out] at C; exact C
        clear HZ HZ1
        have HT := hI fun W (h : q.In W) => text_q (q := q) (x := coef l k) h HX.out
        have HR0 := hI (rtx_len HQ.out HX.out)
        have HP := hI (show pcU n (coef l k) k = sepU ((k : Int) == (n : Int) - 1) (Lib.hasPrefix (rtx (coef l k)) [45]) ++ termU (Lib.trimPrefix (rtx (coef l k)) [45]) k by unfold pcU; rw [if_neg hz])
        have HP1 := hI (pcU_len (n := n) (i := k) (x := coef l k) (by omega) HR0.out)
        obtain ⟨x, hx⟩ : ∃ x : List UInt8, rtx (coef l k) = x := ⟨_, rfl⟩
        rw [hx] at HT HR0 HP
        clear hx hz
        have HR1 := hI (show ∀ W, Below wr.heap.size wr W -> PSl W (some ad) n c L /\ q.In W /\ C4 W p q /\ Lib.IsBuilder 126 5 w.heap.size w.heap.size (Lib.byteCells (pcsU l (n - (k + 1)))) W /\ Below w.heap.size w W from fun W hb =>
         ⟨HR.out.2.1.on hb, HQ.out.on hb, (HR.out.2.1.on hb).c4 rfl HK.out hp, bld_on HR.out.2.2.1 hb, below_chain HR.out.2.2.2.2 HR.out.2.2.2.2.size hb⟩)
        have HLn := hI HR.out.2.2.2.1
        go_wp2_with fail
        refine (C0.out wr HQ.out).mono ?_
        rintro e w1 ⟨rfl, hb⟩
        have HR2 := hI (HR1.out w1 hb)
        clear hb c0 c1 c2 c3 HR HR1 HQ C0
        obtain ⟨c0, c1, c2, c3⟩ := HR2.out.2.2.1
        go_wp2_with fail
        refine (HT.out w1 HR2.out.2.1).mono ?_
        rintro e w2 ⟨rfl, hb⟩
        have HR3 := hI (show PSl w2 (some ad) n c L /\ Lib.IsBuilder 126 5 w.heap.size w.heap.size (Lib.byteCells (pcsU l (n - (k + 1)))) w2 /\ Below w.heap.size w w2 from ⟨HR2.out.1.on hb, bld_on HR2.out.2.2.2.1 hb, below_chain HR2.out.2.2.2.2 HR2.out.2.2.2.2.size hb⟩)
        clear hb c0 c1 c2 c3 HR2 HT
        go_wp2_with fail
        have C := Tryz.strings_CutPrefix ⟨x.toArray⟩ ⟨#[45]⟩ w2
        obtain ⟨s, hs⟩ : ∃ s, Lib.trimPrefix x [45] = s := ⟨_, rfl⟩
        obtain ⟨ng, hng⟩ : ∃ s, Lib.hasPrefix x [45] = s := ⟨_, rfl⟩
        have HS1 := hI (show s.length <= 5000 by rw [<- hs]; exact Nat.le_trans (trimP_len _ _) HR0.out)
        rw [hs, hng] at HP
        have C1 : Calls Tryz.prog 145 #[.string ⟨x.toArray⟩, .string ⟨#[45]⟩] w2 fun e w' => e = .returned (.tuple #[.string ⟨s.toArray⟩, .bool ng]) /\ w' = w2 := by rw [<- hs, <- hng]; simpa using C
        refine C1.mono ?_
        clear C C1 hs hng HR0
        rintro e w3 ⟨rfl, rfl⟩
        obtain ⟨fb, hfb⟩ : ∃ fb : Bool, ((k : Int) == (n : Int) - 1) = fb := ⟨_, rfl⟩
        rw [hfb] at HP
        go_wp2_with fail
        refine (sep_any fb ng w3).mono ?_
        rintro e w4 ⟨rfl, rfl⟩
        have HQ2 := hI (show (pcsU l (n - (k + 1))).length <= 500000 by have := HLn.out; omega)
        have HLs := hI (sepU_len fb ng)
        go_wp2_with fail
        refine (write_any w.heap.size w.heap.size _ ⟨(sepU fb ng).toArray⟩ w3 HR3.out.2.1 (by
         rw [Lib.byteCells_length, bsize]; have := HQ2.out; have := HLs.out; omega) HR3.out.2.2.size).mono ?_
        rintro e w4 ⟨rfl, hB, hb⟩
        have HR4 := hI (show PSl w4 (some ad) n c L /\ Lib.IsBuilder 126 5 w.heap.size w.heap.size (Lib.byteCells (pcsU l (n - (k + 1)) ++ sepU fb ng)) w4 /\ Below w.heap.size w w4 from
         ⟨HP0.out.on (HR3.out.2.2.trans hb), by rw [Lib.byteCells_append]; exact .inr hB, HR3.out.2.2.trans hb⟩)
        clear hB hb HR3
        have HT4 := hI (show (pcsU l (n - (k + 1)) ++ sepU fb ng).length <= 500003 by rw [List.length_append]; have := HQ2.out; have := HLs.out; omega)
        go_wp2_with fail
        refine (term_any s k w4 (by omega) HS1.out).mono ?_
        rintro e w5 ⟨rfl, rfl⟩
        have HTl := hI (termU_len (s := s) (i := k) (by omega) HS1.out)
        go_wp2_with fail
        refine (write_any w.heap.size w.heap.size _ ⟨(termU s k).toArray⟩ w4 HR4.out.2.1 (by
         rw [Lib.byteCells_length, bsize]; have := HT4.out; have := HTl.out; omega) HR4.out.2.2.size).mono ?_
        rintro e w5 ⟨rfl, hB, hb⟩
        have HR5 := hI (show TxR w (some ad) n c L l k w5 from by
         have hb2 := HR4.out.2.2.trans hb
         have e : Lib.byteCells (pcsU l (n - (k + 1)) ++ sepU fb ng) ++ Lib.strCells ⟨(termU s k).toArray⟩ = Lib.byteCells (pcsU l (n - k)) := by
          rw [HS.out, HP.out, <- List.append_assoc, Lib.byteCells_append _ (termU s k)]
          rfl
         refine ⟨by omega, HP0.out.on hb2, ?_, ?_, hb2⟩
         . rw [e] at hB; exact .inr hB
         . rw [HS.out, List.length_append]
           have := HLn.out
           have := HP1.out
           omega)
        clear hB hb HR4
        go_wp2
        go_roundw
        case rel => exact ⟨k, _, rfl, rfl, HR5⟩
        case measure => simp [intOf]
theorem cl_Text (p : Nat) (A : Option Addr) (n c : Nat) (L : List RVal) (a : List Rat) (w : World) (hb : Blk w p 22 #[.slice A n c]) (h : PSl w A n c L) (hv : Vs L a) (hn : n <= 65) :
 Calls Tryz.prog 103 #[.pointer (some ⟨p, 0, none⟩)] w (RetSt ⟨(utx a).toArray⟩ w) := by
 have HC := hI (text_any A n c L a w h hv hn)
 have x0 := Blk.cell hb 0
 simp only [List.getElem?_toArray, List.getElem?_cons_zero] at x0
 generalize utx a = r at *
 clear hb h hv
 go_enter Tryz.func103, Tryz.ntmps103
 go_wp2_with fail
 refine HC.out.mono ?_
 rintro e w1 ⟨rfl, hb⟩
 have HB := hI hb
 clear hb
 go_wp2
 go_ret
 exact ⟨rfl, HB.out⟩
theorem Text_any (A : Option Addr) (n c : Nat) (a : List Rat) (w : World) (h : PV w A n c a) (ta : Tr a) (la : a.length <= 65) :
 Calls Tryz.prog 47 #[.slice A n c] w (AttT ⟨(utx a).toArray⟩ w) := by
 have hmf : ∀ (fn : Fn) (first cap : Array Value) (w : World), (Instr.makeFunc fn first cap).run Tryz.prog w = .ok (.func fn first cap) w := fun _ _ _ _ => rfl
 obtain ⟨L, h, hv⟩ := h
 have HCK := hI (chk_ok h hv ta la)
 have HN := hI (show n <= 1000 /\ n <= 65 from ⟨by rw [<- h.len, hv.len]; omega, by rw [<- h.len, hv.len]; omega⟩)
 have M := hI ((((Mem.nil w).old (x := .pol A n c L) (by simp) h rfl).newCel (t := 22) (noUs1 A n c) _ rfl).newCel (t := 22) (noUs1 A n c) (w.heap.size + 1) (by simp))
 have HV := hI hv
 clear h hv ta
 go_enter Tryz.func47, Tryz.ntmps47
 go_wp2_with fail
 generalize hW : World.alloc (World.alloc w _) _ = V at *
 clear hW
 have C := attT_any 103 #[.pointer (some ⟨w.heap.size, 0, none⟩)] (w.heap.size + 1) 1 1 _ ⟨(utx a).toArray⟩ V (polys1 (M.out.cel 0 rfl).1 (M.out.pol 2 rfl) (by have := HN.out; omega)) (by decide) (Nat.le_refl _) (fun k hk => HCK.out) rfl (hI fun W hb => cl_Text w.heap.size A n c L a W ((M.out.on hb).cel 1 rfl).1 ((M.out.on hb).pol 2 rfl) HV.out HN.out.2)
 refine C.mono ?_
 clear C
 rintro e w1 ⟨rfl, hb⟩
 have HB := hI (M.out.on hb).bel
 clear hb
 go_wp2
 go_ret2
 exact ⟨rfl, HB.out⟩
end Go.Proofs.YtmncfbfepdbioaaGreatDoor
namespace Go.Proofs.YtmncfbfepdbioaaGreatDoor
open Go.RowKit
inductive Lv where
 | p (A : Option Addr) (n c : Nat) (l : List Rat)
 | q (r : RVal) (x : Rat)
 | b (g : Nat) (r : RVal) (x : Rat)
def Lv.At (w : World) : Lv -> Prop
 | .p A n c l => PV w A n c l /\ Tr l /\ l.length <= 65
 | .q r x => r.In w /\ r.v = some x
 | .b g r x => Rb w g r /\ r.v = some x
theorem Lv.At.on {w w' : World} {x : Lv} (h : x.At w) (hb : Below w.heap.size w w') : x.At w' := by
 cases x with
 | p A n c l => exact ⟨PV.on h.1 hb, h.2⟩
 | q r x => exact ⟨RVal.In.on h.1 hb, h.2⟩
 | b g r x => exact ⟨Rb.on h.1 hb, h.2⟩
theorem Lv.At.drew {w : World} {x : Lv} (h : x.At w) : x.At w.drew := by
 cases x with
 | p A n c l =>
   obtain ⟨⟨L, h1, h2⟩, h3⟩ := h
   exact ⟨⟨L, h1.drew, h2⟩, h3⟩
 | q r x => exact ⟨RVal.In.drew h.1, h.2⟩
 | b g r x => exact ⟨Rb.drew h.1, h.2⟩
structure Lm (w0 w : World) (l : List Lv) : Prop where
 bel : Below w0.heap.size w0 w
 all : ∀ x ∈ l, x.At w
section
variable {w0 w w' : World} {l : List Lv}
theorem Lm.nil (w : World) : Lm w w [] := ⟨Below.refl _ _, fun _ h => (nomatch h)⟩
theorem Lm.on (h : Lm w0 w l) (hb : Below w.heap.size w w') : Lm w0 w' l := ⟨below_chain h.bel h.bel.size hb, fun x k => (h.all x k).on hb⟩
theorem Lm.drew (h : Lm w0 w l) : Lm w0 w.drew l := ⟨h.bel.drew, fun x k => (h.all x k).drew⟩
theorem Lm.add (h : Lm w0 w l) {x : Lv} (hx : x.At w) : Lm w0 w (x :: l) := ⟨h.bel, fun y k => by
 rcases List.mem_cons.1 k with rfl | k
 . exact hx
 . exact h.all y k⟩
theorem Lm.drop (h : Lm w0 w l) (k : Nat) : Lm w0 w (l.drop k) := ⟨h.bel, fun x m => h.all x (List.mem_of_mem_drop m)⟩
theorem Lm.pick (h : Lm w0 w l) (i : Nat) {x : Lv} (hx : l[i]? = some x) : Lm w0 w [x] := ⟨h.bel, fun y k => by rw [List.mem_singleton.1 k]; exact h.all _ (List.mem_of_getElem? hx)⟩
theorem Lm.p (h : Lm w0 w l) (i : Nat) {A : Option Addr} {n c : Nat} {a : List Rat} (hx : l[i]? = some (.p A n c a)) : PV w A n c a /\ Tr a /\ a.length <= 65 := h.all _ (List.mem_of_getElem? hx)
theorem Lm.q (h : Lm w0 w l) (i : Nat) {r : RVal} {x : Rat} (hx : l[i]? = some (.q r x)) : r.In w /\ r.v = some x := h.all _ (List.mem_of_getElem? hx)
theorem Lm.b (h : Lm w0 w l) (i : Nat) {g : Nat} {r : RVal} {x : Rat} (hx : l[i]? = some (.b g r x)) : Rb w g r /\ r.v = some x := h.all _ (List.mem_of_getElem? hx)
end
def nums (zs : List Int) : List Rat := zs.map fun (z : Int) => (z : Rat)
theorem pv_new (w : World) (L : List RVal) (l : List Rat) (hL : ∀ q ∈ L, q.In w) (hv : Vs L l) (hl : L.length <= 1000) : PV (w.alloc (.cells (qcells L).toArray 27)) (some ⟨w.heap.size, 0, none⟩) L.length L.length l :=
 ⟨L, psl_arr ⟨Blk.new w _ _, fun q k => (hL q k).on (below_new _ _)⟩ (by omega), hv⟩
theorem isl_new (zs : List Int) (w : World) (hz : ∀ z ∈ zs, -9223372036854775808 <= z /\ z <= 9223372036854775807) (hl : zs.length <= 1000) :
 ISl (w.alloc (.cells (zs.map fun z => Value.int .i64 z).toArray 3)) (some ⟨w.heap.size, 0, none⟩) zs.length zs.length zs := by
 refine ⟨rfl, Nat.le_refl _, by omega, fun k hk => ⟨_, rfl, Blk.lt (Blk.new w _ _), ?_⟩, hz⟩
 have add : (⟨w.heap.size, 0, none⟩ : Addr).add k = ⟨w.heap.size, k, none⟩ := by unfold Addr.add; split <;> simp_all
 rw [add, Blk.cell (Blk.new w _ _) k, List.getElem?_toArray, List.getElem?_map, List.getElem?_eq_getElem hk, List.getD_eq_getElem?_getD, List.getElem?_eq_getElem hk]
 rfl
theorem polyL_ok (zs : List Int) (m : Nat) (hm : m <= 65) : Tr (polyL zs m) /\ (polyL zs m).length <= 65 := by
 refine ⟨Tr.ptrim _, ?_⟩
 have h1 := ptrim_le (cofs zs m)
 have h2 : (cofs zs m).length <= m := by unfold cofs; rw [List.length_map, List.length_take]; omega
 unfold polyL
 omega
theorem lin_ok (n : Int) : Tr (lin' n) /\ (lin' n).length <= 65 := ⟨Or.inr (by show ((1 : Int) : Rat) ≠ 0; decide), by show 2 <= 65; decide⟩
theorem sn_mul : pmulO (lin' 1) (lin' (-1)) = .ok (nums [-1, 0, 1]) := by kernel_rfl
theorem sn_div : pdivO (polyL [50, 50, 51] 3) (polyL [49, 52] 3) = .ok ([Rat.divInt 1 4, Rat.divInt 1 2], [Rat.divInt 1 4]) := by kernel_rfl
theorem sn_gcd : gcdO (polyL [52, 52] 3).length (polyL [49, 50, 51] 3) (polyL [52, 52] 3) = .ok (lin' (-1)) := by kernel_rfl
theorem sn_res : resO (resN (lin' 3) (lin' 1)) (lin' 3) (lin' 1) = .ok ((2 : Int) : Rat) := by kernel_rfl
theorem sn_zero : pdivO (lin' 1) [] = .error 4 := by kernel_rfl
theorem tr_mul : Tr (nums [-1, 0, 1]) := Or.inr (by decide +kernel)
theorem tr_q : Tr [Rat.divInt 1 4, Rat.divInt 1 2] := Or.inr (by decide +kernel)
theorem tr_r : Tr [Rat.divInt 1 4] := Or.inr (by decide +kernel)
theorem tr_t : Tr (lin' (-1) ++ [((-2 : Int) : Rat)]) := Or.inr (by decide +kernel)
theorem rtx_1 : rtx ((1 : Int) : Rat) = [49] := by
 unfold rtx
 rw [if_pos (by kernel_rfl), show ((1 : Int) : Rat).num = 1 from by kernel_rfl, decT_prs (l := [49]) (z := 1) (by decide)]
theorem rtx_m2 : rtx ((-2 : Int) : Rat) = [45, 50] := by
 unfold rtx
 rw [if_pos (by kernel_rfl), show ((-2 : Int) : Rat).num = -2 from by kernel_rfl, decT_prs (l := [45, 50]) (z := -2) (by decide)]
theorem dig_2 : Lib.decDigits 2 = [50] := by rw [Lib.decDigits, dif_pos (by decide)]; rfl
theorem sn_text : utx (lin' (-1) ++ [((-2 : Int) : Rat)]) = [45, 50, 42, 120, 94, 50, 32, 43, 32, 120, 32, 43, 32, 49] := by
 have e : utx (lin' (-1) ++ [((-2 : Int) : Rat)]) = ([] ++ pcU 3 ((-2 : Int) : Rat) 2 ++ pcU 3 ((1 : Int) : Rat) 1) ++ pcU 3 ((1 : Int) : Rat) 0 := rfl
 rw [e]
 unfold pcU
 rw [if_neg (by decide +kernel), if_neg (by decide +kernel), if_neg (by decide +kernel), rtx_1, rtx_m2]
 unfold termU powU
 rw [dig_2]
 decide
theorem linear_own (n : Int) (w : World) (h1 : -1000000 <= n) (h2 : n <= 1000000) : Calls Tryz.prog 40 #[.int .i64 n] w fun e w' => ∃ v L, e = .returned v /\ OwnQ w' w.heap.size v L /\ Vs L (lin' n) /\ Below w.heap.size w w' := by
 go_enter Tryz.func40, Tryz.ntmps40
 go_wp2_with fail
 refine (lnumber_any (-n) w (by omega) (by omega)).mono ?_
 rintro e w1 ⟨q1, rfl, hq, hv, hb⟩
 have M1 := hI (((Mem.nil w).on hb).addRat hq)
 have V1 := hI hv
 clear hq hv hb
 go_wp2_with fail
 refine (lnumber_any 1 w1 (by decide) (by decide)).mono ?_
 rintro e w2 ⟨q2, rfl, hq, hv, hb⟩
 have M2 := hI ((M1.out.on hb).addRat hq)
 have V2 := hI hv
 clear hq hv hb M1
 have M3 := hI (M2.out.newList [q1, q2] (fun q k => by
  rcases List.mem_cons.1 k with rfl | k
  . exact M2.out.rat 1 rfl
  . rw [List.mem_singleton.1 k]; exact M2.out.rat 0 rfl) _ rfl)
 have HS := hI M2.out.bel.size
 go_wp2
 go_ret
 refine ⟨_, [q1, q2], rfl, ⟨⟨⟨rfl, Or.inr ⟨w2.heap.size, 2, _, rfl, HS.out, (M3.out.arr 0 rfl).1, Nat.le_refl _, by decide, rfl, rfl⟩⟩, ?_⟩, (M3.out.arr 0 rfl).2⟩, Vs.cons V1.out (Vs.cons V2.out rfl), M3.out.bel⟩
 intro g cur hg hc u hu
 injection hg with hg
 subst hg
 have hc2 := (M3.out.arr 0 rfl).1
 unfold Blk at hc2
 have hc3 := hc2.symm.trans hc
 injection hc3 with hc3
 injection hc3 with hc3
 subst hc3
 simp only [qcells, List.flatMap_cons, List.flatMap_nil, List.append_nil, List.toList_toArray, List.mem_append, List.mem_cons, List.not_mem_nil, or_false] at hu
 rcases hu with (rfl | rfl | rfl | rfl) | rfl | rfl | rfl | rfl <;> (intro k x e; cases e)
theorem ownq_pv {w : World} {base : Nat} {v : Value} {L : List RVal} {l : List Rat} (h : OwnQ w base v L) (hv : Vs L l) (hl : l.length <= 1000) : ∃ A c, v = .slice A l.length c /\ PV w A l.length c l := by
 have e := hv.len
 obtain ⟨A, c, h1, h2⟩ := ownq_psl h (by omega)
 exact ⟨A, c, by rw [h1, e], L, by rw [<- e]; exact h2, hv⟩
end Go.Proofs.YtmncfbfepdbioaaGreatDoor
namespace Go.Proofs.YtmncfbfepdbioaaGreatDoor
open Go.RowKit
theorem sane_any (w : World) : Calls Tryz.prog 14 #[] w (Yes w) := by
 have M0 := hI (Lm.nil w)
 go_enter Tryz.func14, Tryz.ntmps14
 go_wp2_with fail
 refine (linear_any (1) w (by decide) (by decide)).mono ?_
 rintro e w1 ⟨Aa, na, ca, rfl, hp, hb⟩
 have M1 := hI ((M0.out.on hb).add (x := .p Aa na ca (lin' (1))) ⟨hp, lin_ok (1)⟩)
 clear M0 hp hb
 go_wp2_with fail
 refine (linear_any (-1) w1 (by decide) (by decide)).mono ?_
 rintro e w2 ⟨Ab, nb, cb, rfl, hp, hb⟩
 have M2 := hI ((M1.out.on hb).add (x := .p Ab nb cb (lin' (-1))) ⟨hp, lin_ok (-1)⟩)
 clear M1 hp hb
 go_wp2_with fail
 have C := Mul_any _ _ _ _ _ _ _ _ w2 (M2.out.p 1 rfl).1 (M2.out.p 0 rfl).1 (M2.out.p 1 rfl).2.1 (M2.out.p 0 rfl).2.1 (M2.out.p 1 rfl).2.2 (M2.out.p 0 rfl).2.2
 rw [sn_mul] at C
 refine C.mono ?_
 clear C
 rintro e w3 ⟨Am, nm, cm, rfl, hp, hb⟩
 have M3 := hI ((M2.out.on hb).add (x := .p Am nm cm (nums [-1, 0, 1])) ⟨hp, tr_mul, by decide⟩)
 clear M2 hp hb
 go_wp2_with fail
 have hn := below_new w3 (.cells #[.int .i64 50, .int .i64 50, .int .i64 51] 3)
 refine (poly_any _ _ _ [50, 50, 51] 3 _ (isl_new [50, 50, 51] w3 (by decide) (by decide)) (by decide)).mono ?_
 rintro e w4 ⟨Ac, nc, cc, rfl, hp, hb⟩
 have hb2 := below_chain hn (Nat.le_of_lt (Blk.lt (Blk.new w3 _ _))) hb
 have M4 := hI ((M3.out.on hb2).add (x := .p Ac nc cc (polyL [50, 50, 51] 3)) ⟨hp, polyL_ok [50, 50, 51] 3 (by decide)⟩)
 clear M3 hp hb hn hb2
 go_wp2_with fail
 have hn := below_new w4 (.cells #[.int .i64 49, .int .i64 52] 3)
 refine (poly_any _ _ _ [49, 52] 3 _ (isl_new [49, 52] w4 (by decide) (by decide)) (by decide)).mono ?_
 rintro e w5 ⟨Ad, nd, cd, rfl, hp, hb⟩
 have hb2 := below_chain hn (Nat.le_of_lt (Blk.lt (Blk.new w4 _ _))) hb
 have M5 := hI ((M4.out.on hb2).add (x := .p Ad nd cd (polyL [49, 52] 3)) ⟨hp, polyL_ok [49, 52] 3 (by decide)⟩)
 clear M4 hp hb hn hb2
 go_wp2_with fail
 have C := DivMod_any _ _ _ _ _ _ _ _ w5 (M5.out.p 1 rfl).1 (M5.out.p 0 rfl).1 (M5.out.p 1 rfl).2.1 (M5.out.p 0 rfl).2.1 (M5.out.p 1 rfl).2.2 (M5.out.p 0 rfl).2.2
 rw [sn_div] at C
 refine C.mono ?_
 clear C
 rintro e w6 ⟨Adq, ndq, cdq, Adr, ndr, cdr, rfl, hp, hp2, hb⟩
 have hx : Lv.At w6 (.p Adq ndq cdq [Rat.divInt 1 4, Rat.divInt 1 2]) := ⟨hp, tr_q, by decide⟩
 have M6 := hI ((M5.out.on hb).add (x := .p Adr ndr cdr [Rat.divInt 1 4]) ⟨hp2, tr_r, by decide⟩)
 clear M5 hp hp2 hb
 have M7 := hI (M6.out.add hx)
 clear hx M6
 go_wp2_with fail
 have hn := below_new w6 (.cells #[.int .i64 49, .int .i64 50, .int .i64 51] 3)
 refine (poly_any _ _ _ [49, 50, 51] 3 _ (isl_new [49, 50, 51] w6 (by decide) (by decide)) (by decide)).mono ?_
 rintro e w8 ⟨Af, nf, cf, rfl, hp, hb⟩
 have hb2 := below_chain hn (Nat.le_of_lt (Blk.lt (Blk.new w6 _ _))) hb
 have M8 := hI ((M7.out.on hb2).add (x := .p Af nf cf (polyL [49, 50, 51] 3)) ⟨hp, polyL_ok [49, 50, 51] 3 (by decide)⟩)
 clear M7 hp hb hn hb2
 go_wp2_with fail
 have hn := below_new w8 (.cells #[.int .i64 52, .int .i64 52] 3)
 refine (poly_any _ _ _ [52, 52] 3 _ (isl_new [52, 52] w8 (by decide) (by decide)) (by decide)).mono ?_
 rintro e w9 ⟨Ah, nh, ch, rfl, hp, hb⟩
 have hb2 := below_chain hn (Nat.le_of_lt (Blk.lt (Blk.new w8 _ _))) hb
 have M9 := hI ((M8.out.on hb2).add (x := .p Ah nh ch (polyL [52, 52] 3)) ⟨hp, polyL_ok [52, 52] 3 (by decide)⟩)
 clear M8 hp hb hn hb2
 go_wp2_with fail
 have C := GCD_any _ _ _ _ _ _ _ _ w9 (M9.out.p 1 rfl).1 (M9.out.p 0 rfl).1 (M9.out.p 1 rfl).2.1 (M9.out.p 0 rfl).2.1 (M9.out.p 1 rfl).2.2 (M9.out.p 0 rfl).2.2
 rw [sn_gcd] at C
 refine C.mono ?_
 clear C
 rintro e w10 ⟨Ag, ng, cg, rfl, hp, hb⟩
 have M10 := hI ((M9.out.on hb).add (x := .p Ag ng cg (lin' (-1))) ⟨hp, lin_ok (-1)⟩)
 clear M9 hp hb
 go_wp2_with fail
 refine (linear_any (3) w10 (by decide) (by decide)).mono ?_
 rintro e w11 ⟨Ai, ni, ci, rfl, hp, hb⟩
 have M11 := hI ((M10.out.on hb).add (x := .p Ai ni ci (lin' (3))) ⟨hp, lin_ok (3)⟩)
 clear M10 hp hb
 go_wp2_with fail
 refine (linear_any (1) w11 (by decide) (by decide)).mono ?_
 rintro e w12 ⟨Aj, nj, cj, rfl, hp, hb⟩
 have M12 := hI ((M11.out.on hb).add (x := .p Aj nj cj (lin' (1))) ⟨hp, lin_ok (1)⟩)
 clear M11 hp hb
 go_wp2_with fail
 have C := Resultant_any _ _ _ _ _ _ _ _ w12 (M12.out.p 1 rfl).1 (M12.out.p 0 rfl).1 (M12.out.p 1 rfl).2.1 (M12.out.p 0 rfl).2.1 (M12.out.p 1 rfl).2.2 (M12.out.p 0 rfl).2.2
 rw [sn_res] at C
 refine C.mono ?_
 clear C
 rintro e w13 ⟨qv, rfl, hq, hv, hb⟩
 have M14 := hI (M12.out.on hb)
 clear M12 hb
 have hn := below_new w13 (.cells #[.bool qv.g, .slice qv.A qv.n qv.c, .bool qv.gd, .slice qv.Ad qv.nd qv.cd] 27)
 have M15 := hI ((M14.out.on hn).add (x := .b w13.heap.size qv ((2 : Int) : Rat)) ⟨((Mem.nil w13).newBox hq _ rfl).box 0 rfl, hv⟩)
 clear hn M14 hq hv
 go_wp2_with fail
 refine (linear_own (-1) (w13.alloc (.cells #[.bool qv.g, .slice qv.A qv.n qv.c, .bool qv.gd, .slice qv.Ad qv.nd qv.cd] 27)) (by decide) (by decide)).mono ?_
 rintro e w16 ⟨vv, LL, rfl, ho, hv, hb⟩
 have HO := hI ho
 have HV := hI hv
 have HB := hI hb
 clear ho hv hb
 go_wp2_with fail
 refine (lnumber_any (-2) w16 (by decide) (by decide)).mono ?_
 rintro e w17 ⟨qt, rfl, hq, hv, hb⟩
 have HO2 := hI (HO.out.on hb)
 have HB2 := hI (below_chain HB.out HB.out.size hb)
 have hn := below_new w17 (.cells #[.bool qt.g, .slice qt.A qt.n qt.c, .bool qt.gd, .slice qt.Ad qt.nd qt.cd] 27)
 have HO3 := hI (HO2.out.on hn)
 have HB3 := hI (below_chain HB2.out HB2.out.size hn)
 have HQ := hI (hq.on hn)
 have HN := hI (Blk.new w17 27 #[.bool qt.g, .slice qt.A qt.n qt.c, .bool qt.gd, .slice qt.Ad qt.nd qt.cd])
 have HLl := hI (show LL.length <= 100000 by rw [HV.out.len]; decide)
 have HV2 := hI (show Vs (LL ++ [qt]) (lin' (-1) ++ [((-2 : Int) : Rat)]) by
  have h1 := HV.out
  have h2 : qt.v = some ((-2 : Int) : Rat) := hv
  unfold Vs at *
  rw [List.map_append, List.map_append, h1, List.map_singleton, List.map_singleton, h2])
 clear hq hv hb hn HO HO2 HB HB2 HV
 go_wp2_with (at_builtin; refine rats_app rfl _ _ rfl w17.heap.size qt HO3.out rfl rfl HN.out HQ.out HLl.out HB3.out.size ?_; intro vt w18 ho hg hge)
 obtain ⟨At, ct, rfl, hp⟩ := ownq_pv ho HV2.out (by decide)
 have hb := HB3.out.grown hg HB3.out.size (fun g e => hge g e)
 have M18 := hI ((M15.out.on hb).add (x := .p At _ ct (lin' (-1) ++ [((-2 : Int) : Rat)])) ⟨hp, tr_t, by decide⟩)
 clear M15 hp hb ho hg hge HO3 HB3 HQ HN HLl HV2
 go_wp2_with fail
 have C := Text_any _ _ _ _ w18 (M18.out.p 0 rfl).1 (M18.out.p 0 rfl).2.1 (M18.out.p 0 rfl).2.2
 rw [sn_text] at C
 refine C.mono ?_
 clear C
 rintro e w19 ⟨rfl, hb⟩
 have M20 := hI (M18.out.on hb)
 clear M18 hb
 go_wp2_with fail
 refine (linear_any (1) w19 (by decide) (by decide)).mono ?_
 rintro e w21 ⟨Az, nz, cz, rfl, hp, hb⟩
 have M21 := hI ((M20.out.on hb).add (x := .p Az nz cz (lin' (1))) ⟨hp, lin_ok (1)⟩)
 clear M20 hp hb
 go_wp2_with fail
 have C := DivMod_any _ _ _ _ none 0 0 [] w21 (M21.out.p 0 rfl).1 ⟨[], PSl.nil _, rfl⟩ (M21.out.p 0 rfl).2.1 Tr.nil (M21.out.p 0 rfl).2.2 (by decide)
 rw [sn_zero] at C
 refine C.mono ?_
 clear C
 rintro e w22 ⟨rfl, hb⟩
 have M23 := hI (M21.out.on hb)
 clear M21 hb
 go_wp2_with fail
 have C := rof_q 1 2 w22 (by decide) (by decide) (by decide) (by decide)
 rw [show mkN (some 1) (some 2) = 1 from by kernel_rfl, show mkD (some 1) (some 2) = 2 from by kernel_rfl, show mkE (some 1) (some 2) = 0 from rfl] at C
 refine C.mono ?_
 clear C
 rintro e w24 ⟨qhalf, rfl, hq, ho, hod, hb⟩
 have hv : qhalf.v = some (Rat.divInt 1 2) := by unfold RVal.v; rw [ho, hod]; exact rv_mk (by decide) (by decide)
 clear ho hod
 have M25 := hI (M23.out.on hb)
 clear M23 hb
 have hn := below_new w24 (.cells #[.bool qhalf.g, .slice qhalf.A qhalf.n qhalf.c, .bool qhalf.gd, .slice qhalf.Ad qhalf.nd qhalf.cd] 27)
 have M26 := hI ((M25.out.on hn).add (x := .b w24.heap.size qhalf (Rat.divInt 1 2)) ⟨((Mem.nil w24).newBox hq _ rfl).box 0 rfl, hv⟩)
 clear hn M25 hq hv
 go_wp2_with fail
 have C := rof_q 1 4 (w24.alloc (.cells #[.bool qhalf.g, .slice qhalf.A qhalf.n qhalf.c, .bool qhalf.gd, .slice qhalf.Ad qhalf.nd qhalf.cd] 27)) (by decide) (by decide) (by decide) (by decide)
 rw [show mkN (some 1) (some 4) = 1 from by kernel_rfl, show mkD (some 1) (some 4) = 4 from by kernel_rfl, show mkE (some 1) (some 4) = 0 from rfl] at C
 refine C.mono ?_
 clear C
 rintro e w27 ⟨qquarter, rfl, hq, ho, hod, hb⟩
 have hv : qquarter.v = some (Rat.divInt 1 4) := by unfold RVal.v; rw [ho, hod]; exact rv_mk (by decide) (by decide)
 clear ho hod
 have M28 := hI (M26.out.on hb)
 clear M26 hb
 have hn := below_new w27 (.cells #[.bool qquarter.g, .slice qquarter.A qquarter.n qquarter.c, .bool qquarter.gd, .slice qquarter.Ad qquarter.nd qquarter.cd] 27)
 have M29 := hI ((M28.out.on hn).add (x := .b w27.heap.size qquarter (Rat.divInt 1 4)) ⟨((Mem.nil w27).newBox hq _ rfl).box 0 rfl, hv⟩)
 clear hn M28 hq hv
 go_wp2_with fail
 refine (lnumber_any (-1) (w27.alloc (.cells #[.bool qquarter.g, .slice qquarter.A qquarter.n qquarter.c, .bool qquarter.gd, .slice qquarter.Ad qquarter.nd qquarter.cd] 27)) (by decide) (by decide)).mono ?_
 rintro e w30 ⟨qx, rfl, hq, hv, hb⟩
 have M30 := hI ((M29.out.on hb).add (x := .q qx ((-1 : Int) : Rat)) ⟨hq, hv⟩)
 clear M29 hq hv hb
 go_wp2_with fail
 refine (lnumber_any (0) w30 (by decide) (by decide)).mono ?_
 rintro e w31 ⟨qy, rfl, hq, hv, hb⟩
 have M31 := hI ((M30.out.on hb).add (x := .q qy ((0 : Int) : Rat)) ⟨hq, hv⟩)
 clear M30 hq hv hb
 go_wp2_with fail
 refine (lnumber_any (1) w31 (by decide) (by decide)).mono ?_
 rintro e w32 ⟨qo, rfl, hq, hv, hb⟩
 have M32 := hI ((M31.out.on hb).add (x := .q qo ((1 : Int) : Rat)) ⟨hq, hv⟩)
 clear M31 hq hv hb
 go_wp2_with fail
 have hp := pv_new w32 [qx, qy, qo] (nums [-1, 0, 1]) (fun y k => by
  simp only [List.mem_cons, List.not_mem_nil, or_false] at k
  rcases k with rfl | rfl | rfl
  . exact (M32.out.q 2 rfl).1
  . exact (M32.out.q 1 rfl).1
  . exact (M32.out.q 0 rfl).1) (Vs.cons (M32.out.q 2 rfl).2 (Vs.cons (M32.out.q 1 rfl).2 (Vs.cons (M32.out.q 0 rfl).2 rfl))) (by simp)
 have hn := below_new w32 (.cells (qcells [qx, qy, qo]).toArray 27)
 have C := same_yes ((M32.out.p 17 rfl).1.on hn) hp (by have := (M32.out.p 17 rfl).2.2; omega)
 refine C.mono ?_
 clear C hp
 rintro e w33 ⟨rfl, hb⟩
 have hb2 := below_chain hn (Nat.le_of_lt (Blk.lt (Blk.new w32 _ _))) hb
 have M34 := hI (M32.out.on hb2)
 clear M32 hb hb2 hn
 obtain ⟨cquarter0, cquarter1, cquarter2, cquarter3⟩ := (M34.out.b 3 rfl).1.cs
 obtain ⟨chalf0, chalf1, chalf2, chalf3⟩ := (M34.out.b 4 rfl).1.cs
 go_wp2_with fail
 clear cquarter0 cquarter1 cquarter2 cquarter3 chalf0 chalf1 chalf2 chalf3
 have hp := pv_new w33 [qquarter, qhalf] [Rat.divInt 1 4, Rat.divInt 1 2] (fun y k => by
  simp only [List.mem_cons, List.not_mem_nil, or_false] at k
  rcases k with rfl | rfl
  . exact (M34.out.b 3 rfl).1.sl
  . exact (M34.out.b 4 rfl).1.sl) (Vs.cons (M34.out.b 3 rfl).2 (Vs.cons (M34.out.b 4 rfl).2 rfl)) (by simp)
 have hn := below_new w33 (.cells (qcells [qquarter, qhalf]).toArray 27)
 have C := same_yes ((M34.out.p 13 rfl).1.on hn) hp (by have := (M34.out.p 13 rfl).2.2; omega)
 refine C.mono ?_
 clear C hp
 rintro e w35 ⟨rfl, hb⟩
 have hb2 := below_chain hn (Nat.le_of_lt (Blk.lt (Blk.new w33 _ _))) hb
 have M36 := hI (M34.out.on hb2)
 clear M34 hb hb2 hn
 obtain ⟨cquarter0, cquarter1, cquarter2, cquarter3⟩ := (M36.out.b 3 rfl).1.cs
 go_wp2_with fail
 clear cquarter0 cquarter1 cquarter2 cquarter3
 have hp := pv_new w35 [qquarter] [Rat.divInt 1 4] (fun y k => by
  simp only [List.mem_cons, List.not_mem_nil, or_false] at k
  rcases k with rfl
  . exact (M36.out.b 3 rfl).1.sl) (Vs.cons (M36.out.b 3 rfl).2 rfl) (by simp)
 have hn := below_new w35 (.cells (qcells [qquarter]).toArray 27)
 have C := same_yes ((M36.out.p 14 rfl).1.on hn) hp (by have := (M36.out.p 14 rfl).2.2; omega)
 refine C.mono ?_
 clear C hp
 rintro e w37 ⟨rfl, hb⟩
 have hb2 := below_chain hn (Nat.le_of_lt (Blk.lt (Blk.new w35 _ _))) hb
 have M38 := hI (M36.out.on hb2)
 clear M36 hb hb2 hn
 go_wp2_with fail
 refine (linear_any (-1) w37 (by decide) (by decide)).mono ?_
 rintro e w39 ⟨Ak, nk, ck, rfl, hp, hb⟩
 have M39 := hI ((M38.out.on hb).add (x := .p Ak nk ck (lin' (-1))) ⟨hp, lin_ok (-1)⟩)
 clear M38 hp hb
 go_wp2_with fail
 refine (same_yes (M39.out.p 11 rfl).1 (M39.out.p 0 rfl).1 (by have := (M39.out.p 11 rfl).2.2; omega)).mono ?_
 rintro e w40 ⟨rfl, hb⟩
 have M41 := hI (M39.out.on hb)
 clear M39 hb
 go_wp2_with fail
 have MP := hI (M41.out.pick 8 rfl)
 clear M41
 refine anyS_start (fun w' => Lm w w' [.b w13.heap.size qv ((2 : Int) : Rat)]) [] 4 (by kernel_rfl) (by kernel_rfl) ?_
 have hS := MP.out.drew
 clear MP
 refine anyS_take (v := ?_) 0 (some 115) rfl (by kernel_rfl) (by kernel_rfl) (fun _ _ _ h => h) (by rfl) ?_ hS ?_; rotate_left
 . (intro w' hSw; obtain ⟨x0, x1, x2, x3⟩ := (hSw.b 0 rfl).1.cs; go_simp; try with_reducible rfl)
 try simp only [Act.put, List.setIfInBounds_toArray, List.set_cons_zero, List.set_cons_succ]
 have M1 := hI hS
 clear hS
 refine anyS_one 1 (by kernel_rfl) rfl (by rfl) (fun KK hKK => ?_)
 go_simp
 (with_reducible refine (lnumber_any 2 w40.drew (by decide) (by decide)).mono ?_)
 rintro e y1 ⟨qn, rfl, hq, hv, hb⟩
 have M2 := hI (M1.out.on hb)
 have HQ := hI (show qn.In y1 /\ qn.v = some ((2 : Int) : Rat) from ⟨hq, hv⟩)
 clear hq hv hb M1
 refine hKK.out _ _ (Or.inr M2.out) ?_
 clear hKK KK 
 try simp only [Act.put, List.setIfInBounds_toArray, List.set_cons_zero, List.set_cons_succ]
 refine anyS_one 2 (by kernel_rfl) rfl (by rfl) (fun KK hKK => ?_)
 go_simp
 (with_reducible refine (sameRat_yes qv qn ((2 : Int) : Rat) y1 (M2.out.b 0 rfl).1.sl HQ.out.1 (M2.out.b 0 rfl).2 HQ.out.2).mono ?_)
 rintro e y2 ⟨rfl, hb⟩
 have M3 := hI (M2.out.on hb)
 clear hb M2 HQ
 refine hKK.out _ _ (Or.inr M3.out) ?_
 clear hKK KK 
 try simp only [Act.put, List.setIfInBounds_toArray, List.set_cons_zero, List.set_cons_succ]
 refine anyS_one 3 (by kernel_rfl) rfl (by rfl) (fun KK hKK => ?_)
 go_simp
 refine hKK.out _ _ (Or.inr M3.out) ?_
 clear hKK KK
 refine anyS_done (by kernel_rfl) ?_
 go_wp2
 go_ret
 exact ⟨rfl, M3.out.bel⟩
end Go.Proofs.YtmncfbfepdbioaaGreatDoor
namespace Go.Proofs.YtmncfbfepdbioaaGreatDoor
open Go.RowKit
theorem Kn.ok {l : List Rat} {n B : Nat} (h : Kn l n B) (hn : n <= 65) : Tr l /\ l.length <= 65 := ⟨Tr.of h.t, Nat.le_trans h.n hn⟩
theorem kn_poly (zs : List Int) (m : Nat) : Kn (polyL zs m) m 51 := by
 refine ⟨ptrim_idem _, ?_, IbL.trim fun i => ?_⟩
 . have h1 := ptrim_le (cofs zs m)
   have h2 : (cofs zs m).length <= m := by unfold cofs; rw [List.length_map, List.length_take]; omega
   unfold polyL
   omega
 . rcases Nat.lt_or_ge i (cofs zs m).length with g | g
   . have e : coef (cofs zs m) i = (cofs zs m)[i] := by unfold coef; rw [List.getD_eq_getElem?_getD, List.getElem?_eq_getElem g]; rfl
     obtain ⟨z, _, hz⟩ := List.mem_map.1 (show (cofs zs m)[i] ∈ (zs.take m).map fun z => ((pk z 101 - 50 : Int) : Rat) from List.getElem_mem g)
     rw [e, <- hz]
     have h1 := pk_lo z (n := 101) (by decide)
     have h2 := pk_hi z (n := 101) (by decide)
     exact ⟨_, rfl, by omega⟩
   . rw [coef_past g]; exact Ib.zero _
end Go.Proofs.YtmncfbfepdbioaaGreatDoor
